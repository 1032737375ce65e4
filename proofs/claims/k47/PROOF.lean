import PyProof.Rows.All
import Wide.All
import OpenK.KSplit
import OpenK.KNot
import OpenK.KApp
import KE.KIsAll
import KE.RegKIsAll
import KE.LcSums
import KE.KItem
import KE.KSortTup
import KE.KSortAsk
import KE.KDictOf
import KE.KItemsList
import Wide.FinOn
import Lean
import PyProof.EqAt
import PyProof.EqKinds
import PyProof.TupleCall
import PyProof.Rows.CallKwBuiltin
import PyProof.TupleKey
import PyProof.FactsAll.tuple_1
import PyProof.DictDisplay
import PySem.Challenge.RW_loanroll_k47_whole_far_accounts
import KE.KRevSl
set_option Elab.async false
set_option linter.all false
set_option maxRecDepth 100000
set_option maxHeartbeats 20000000
noncomputable section
set_option genSizeOf false
namespace PySem.W.Fast
local macro_rules | `(command| #check [$x,*])=>do
 return Lean.mkNullNode (<-x.getElems.mapM λ x=>`(command| def $(Lean.mkIdent (.mkSimple s!"tw{x.raw.isNatLit?.get!}")):ident:=0))
#check [14346791509538760632,17072552323307216689,840376765273258132,8858587215396915740,861502493610598483,15209766931543799611,15150641518128501605,7143520056324069004,4435421394204515611,3949534555466017914,11081916062258291835,6189800397672023544,17880168534084667868,1975494729534357219,17758090012985419370,11719073727686232960,15291024708798401721,7774113678449685934,7556384842101924317,6680071870117239277,16549743009188526336,16061995869074892340,15932749649340748510,13705001845696326735,854247580281644437,9302633422176391920,4666538515292985638,10223898402276761379,6177304593217944280,13700598899030691371,5515903443438498500,5617726103321767126,11182147044542503669,11207431853666184334,14572810596863954285,13601115934706021691,12627051441459223148,14650627522315821163,1835201335921387983,15540911362017771936,8840235324560252208,13073492499399858440,7151132215420815488,6651725471809605288,4772062507164038959,2386784164831690217,10470340158578859262,14334995849660946996,8356303796347215682,5404398260228975080,17382457898008728272,17852080271459398996,14556482736207283325,9320179249941089650,12314708539913122752,12182174808115992843,15895094517606616290,9296065175928017463,1293241653719404408,8171798328758944481,10164718903369591474,2773992215795510196,14611616552423853409,8997383693586321770,16902085369446701243,12435058653956393420,8743444353482975932,761803264340522177,13257414776242894994,3475869608268796686,5890639436620234070,2931988195819169919,12876709506271813870,17590705303994421779,8646635810480103244,9162645422354645296,726351398001015727,7403982271040965895,1915925776726481438,15413886005781298947,12360917755211006479,7985883749528016586,18328257000508772394,14391293386007564604,5205737364524765896,11078473246598507814,1070438729232803039,12843764043397292189,2528511596961503537,1125065396945160393,4340673293219707767,17817366049700826239,9806118890596472461,757356599333046425,6105849179199505303,8412748745612879247,9619071485814978506,4493901809537577575,18315589098978748413,16380965088707415623,12936088452001202715,3500664145855060485,4449799235075362730,2396527541517898223,12151077715039277381,12325864989022198202,12393862125047025020,2813801546833155447,7353485770183898095,12091442091272426231,18352723725473834589,15621415185263527259,14934011241717051027,4498483972308308552,5162821528426345003,360634875079729221,5444512763150141072,578191462805490351,15060872555676474952,15910123707662034135,6984818610989830729,11564986514327137767,15438627641174518403,10861573186032746274,5665240888008139550,14845619989558847073,10387345722656961088,13037224057902187189,9869809959619462935,10295913840692754127,14746253646979254834,3604082896382514872,4607425872040536859,5072417060200589145,18335596039185421423,6188973233030003785,11076892268299887525,3270257207059953099,651700358538967526,3344036261162260069,3198059409981156222,11368310244458860372,14993981098963755598,4884199854448574,3721919958574915784,16151628708876355199,4561898282857576226,17694573340227235524,12041797014711123256,2789304352393801511,15758238558559904101,5649666937502919571,609457278022895560,12903330217458380548,6649495121980407215,11267315532378154396,1719895430356276633,9679390387850249182,13313058339493701161,14842496431369740429,13956191218907399338,16409965706819354750,4096438862311573950,9719393640593047967,11863963456291920697,5994696166404524948,2950685276103557050,11272164335830466941,15240619367488684849,15538050117781545361,12138319994727072339,13851971633180934007,5000232492035539693,3681537716864247207,7520747337044880989,9536688357841153863,13855379610559885079,3641951560692057861,13953587524928339648,9860861378791804195,6278996535519779258,10293081186089767411,7050804516273991350,14961746396406840608,13557862171009465336,7476452910721959123,17016834523296244275,5467331546851215429,14811107726043686439,8157277791214410489,11161164713144168021,2997480634906808460,1207101557538958131,991626836265849350,12669407529647801677,2041926188850086339,4480162626587320490,209982475168477708,17155049476370652306,15127105006835628225]
#check [16120054744476736488,9201617497623189827,12132596417379514657,15235614512728720,5344687154915797982,9456574344343218679,2983494736656345032,7091221385724896812,5217270863462422736,10406584006884427733,8122695690928665766,16864618592142003386,247591363613054380,13307065042914920193,11824586356888161845,15012102849882553082,17862349074038704544,14958820412457663293,8899516883271353254,15541240446876304647,18367749455379333440,10388488172074580225,16226643914720891334,4562827626845409882,6128106870883400570,11384182702204212275,1986786360949550309,9630203353718772412,9461873434466728008,9189844046219409768,17397653436517662659,5037459499596335280,8080008513338510535,4953865588907285216,17410218998227585676,14963028359598502718,5002640475654186023,2187251505897268136,11308061921803828041,12798174099139212305,5010956058597451964,5449563278759341024,7998583776865276027,15627779663793561183,7770478706760583155,8757255369765604158,6607644564249050058,14294133066467233204,3438699932752214802,8915285831880473931,5783627655825047438,16522183678017940807,10310341975313369176,593343749668468936,7766106395892283477,15792790952358468732,10538165733446703262,3328118118096588273,11566098044289413073,3456351732281881909,16248296213531012650,16670775579421159206,896878414759379649,14811890972901180937,6942634455013318504,16859961878692490766,5662061979359257339,866717566613908145,12330612334027959195,13082796549270168242,10792498714594961201,9947508896943372755,8622715204490130888,14061609134260724683,9433028549170029634,15593559885672580101,16756451883985382160,6690350156832105676,14801369171006070438,2046362190076281809,14594842627406614536,9045458381397004210,1891733041441978011,10576836333797772347,17890440400047909864,87601786513091389,16723463757517087524,17435391645217708394,6408400580700104982,10159399881129095643,4483904966330829159,6469784823511061222,12269216009862288129,15577281813014381367,7007286002206832825,12297992134047619483,11401859456886640639,4683681711962371626,8739830900816887780,17691633702590694504,2827255003249426055,1495895850433845275,1607123104830579860,15251835097244881130,15805137534098808535,13813548295540068894,7509565986652818475,1474264761786122189,1599053048872161195,15743010393045028110,1537541725227008683,4548300405975405348,18157406047293677543,7873748247521183178,13571862603940711859,10095894221667365369,16247262843940693239,8185545411690514434,9950792792127014553,6030501089693204938,5953359166732830163,10146569101766770184,12315944733273679750,3997487885647526937,2810200551564342888,4063829332388037331,5610444585433571239,8278001386518606062,17577329170770402720,11524815483048965402,12901003280762261817,15433366417846715934,15481805183316651443,8535803893964050539,5805800948307579973,13127508451798649013,9678289623588505577,8272569733616993153,6259241058660970061,7422445781565681216,2403389108928632939,18418582437962087742,16998588944726240723,12524954882073270795,11449968299874610285,14332157829676619468,14036186469904095446,11180800956215176064,7873786274422454737,12468840222048715292,18361725300881549022,206757683497733573,4860023922305330110,14454166528178196959,15418674001244492974,7291104481378594968,3391230904512655938,15405715585054051594,9131994410762764641,16942974033885600641,3501407184847187612,5961750674202012425,2629151800749243262,4323258101793500111,14560624547652848805,2358075552688931204,1467881925912835984,3328811466098603303,17260811203177919210,8565224436197482051,14833712730911297017,140236481695663071,4075453323654395381,258204147387103276,14727194681476072466,547895379624588593,3374319085511977134,9510108024173832781,8374155422468719031,8972062959192195235,14564479935002850509,15861351967447197489,8912161614967838395,11738243743197964597,4524658085876675188,256182404569192445,13567515925198824819,15166322114958858414,13349420017058727143,12058884036946728934,514280064592716601,11513857634932158529,12441744018607269044,16203965252921439515,1866716027138748530,16232239604740543338,14995258362815363992,7837367980739423823,11063759124802658401,2925816871977632210]
#check [6331431999304432861,9003107776662980439,14538725608371270373,17163426234232328066,5522115075389312692,3985964047577975286,4757880891971583632,16925712312323332580,15402603294489630176,14441679199631801671,4313010194945074917,4512776594637900181,5239429619861171699,3652199383789512132,896239598344801917,16298917771340976007,9977182230042388008,2080317491765294665,4538635040379822027,14689541978594310382,2144661209622563809,6229817132586351632,2759284407945088205,18101783494082082527,819570635367399668,16212330677787901120,16765560720781731146,6945566481307383155,6900931685637148767,10713865542653931438,18333273249017474000,10953238642706405951,14284835775768690865,6284410105664486691,8995945545434573385,13705283562680751584,9553971096990549364,2424988045566436242,15764947353670896545,86012387029904805,2333105410213810865,5101696844757716304,12887044766017154078,12542895121996172375,16792556548410726896,14081431093454284249,13366278800048369731,11823594873375168262,12132732476715806282,3099597729799864441,1000662321505670351,5960047855520388891,5459702643516471331,7001957589650049515,5388589039460942527,13831308528885131752,17079817176256170043,17292613610259460706,3897268976836264337,2135409205425526673,17483705464198625004,9972681490609642005,4039707410889071942,12738610918357793766,17339309145561079191,6798380500665416597,13622603851894308203,10312438410070409164,13394580363473044415,4102176305081739490,17986951261819808105,11033627544408312984,9252304221032618942,10052031235695348791,8996207646774452837,3236729772642805936,8924819469995637033,1401067106901849026,18441984877410159329,12459912946257978736,9615563845995560447,3335794202401238526,16721508838639397229,12003660372656728261,8865387616306378214,7970753398140278972,7164969610272591079,2314633323536394700,3919386906821981792,17871049288011112270,10799429511968010386,11512705759438076691,15418378422589880096,1864683662541468164,17659185236578331656,12747814925858328940,12930229547647579594,28018229315631829,18248855084332350957,17951090304560329564,6216382948874008006,13205091638197436094,2483420100392427323,2087409540819079288,15171223727094530161,1442379640649564109,9757595895972200118,8422229294311615681,14219159868682941630,14607143338591219252,17082689572870858151,5322009542560784348,13164499291161521807,2400638427578300857,10826640976665885199,11502921971960690029,14022695629967993375,4189273013823423559,4413860948169739490,11757307120078846540,1342123614928995077,6751970477201280107,13462424878891718212,2216542800690825051,10026605065719503897,12076989928817844590,885948055608056263,7882045510503734624,18400553757987027518,18220031379085947620,2244103112122482387,5498123283257192965,4436474186459923750,16691165463884887630,5748170370737335489,3953844824629472508,13547939009206843870,9919008367099125623,376983999666122830,10228342955482612591,1149798457248472902,2275282789119773048,7557421358154311045,4267111383703672358,16531682779099013679,10551173667578312727,13931877327420345601,14736888041290939073,5137589814051832496,5832146486336120021,6145912378217320015,615563214671542189,5667099127317398114,2295934692909999376,1045582712504079209,6828597562223498359,15675013803050531044,18383651708701053236,16053306600634468012,7249310025045793396,10282777137419654623,17980500129456985241,2595585439558603231,18293242582946804979,17613222154834848340,2692750590507578028,16309811473084048462,3719891259706897012,296083027919845158,14341141199694864594,12858089460409395330,15752536640612570366,12528533614272120300,15733337929971156237,3992765435912101610,14424681132571578402,9768418358887946270,12125097214300078407,5289818103960998278,3303267245142563540,3042748168174471775,12717557048674177747,6851275008772768644,10550934584343373414,3110587219445414310,9530734954097333506,5537553045615171315,6325675986683464353,16753820520455620202,6631347999910079877,5274481202262711730,14819390147424179368,14202271707224943307,17464319187374939960,13298828918039433023,4408816720484365081,15870398105094248349,5221592684559293012,3233987462203235646,8909772338491405060]
#check [6248682570935725439,12250869413391326473,12681666616541194006,3676754643040562684,15214748959534726111,6327569006664949090,11205608169257636508,16109456028575089023,6046103115902281144,6542358382571353910,9848817304349107530,11911167908941700269,523537741815420091,2595618661548880785,6329614223026926184,2708214617527550399,15254633091992210921,14553807712399142462,6549852094080907030,3049343062529576306,14938211915633500526,10910644110388302437,938635154573522699,14074196154385387334,14715273107921467267,4773484457636388862,4600438763894957952,13885670934486923800,13669536469129627823,11266997524610791606,7538781388859322016,2941924889016668590,1825952489489211193,15779231459743154856,13674586047789940208,17338325484393633139,11429584451438056573,8219003486749837733,2132029292895624192,11153126096140912846,3778530596728393105,4026147355466621588,9381626543082597023,15326580083554890809,15978794797337165890,14647417624928369756,14617222483516278133,18003772858949239459,4684226298888400098,11468729153070441980,11317637306720784765,13032259773685033708,10988764466652934233,16279288168775177219,14577027041581768965,4547051000311932777,14592624751514493413,7943549864190904611,1998347030407657756,1383625962624193546,13769103115541136327,5832305185047221409,11024694936033576346,1405720946626083897,17592209452093105858,15831126876759372255,11962351593759143498,15504105790966721872,4766597723019941021,17658959251048325594,17170472223608059050,3671519592330383864,6782663255696616371,17678831435119133177,14664691819916384248,12670982853097334264,9402243437249704421,9404705873571188630,8186657734068701312,11859619671507778021,6191700953566675008,643336161829623379,10374632558016547081,6044648929357246223,12408111787983249662,8319933024895762948,13439652990877377571,9331231397406362311,3543459598558145280,16955839230299176341,1205604411410820431,17267597263503486738,16746677531222629524,8159993647027272844,987426779421491659,16682895059504647277,12740759652641322565,14154597600763967237,12750670339961964742,10085292869130188298,12884060626414724322,13872120688422071045,5694767641087392711,256976265262469064,9461912720999461741,211337195705725219,6522051377940421278,12396662096508845406,740290905518256060,9388066449989048879,13710940844802916613,2333531293284704758,14904681115217272601,9223045988441327695,9316815775250114193,11263768400469242888,10510019762269167821,2597523674469684444,11434409910335936926,9304451534382375720,8413399678365625193,5992840812097835891,10886659093417053267,9496581404884138560,18183970276198133131,7607420049574824106,12550775161083096063,16412085850373738351,16422413458241162112,8191318114535113306,16005714805435085966,15925456577456769635,12298192366917762067,8297923619242306668,10294118229990073760,17472340661787783526,11662115353561507501,1630143524128594353,14387916025512776202,6597789921013551971,17318462890700432884,3215387988796971590,6094820017090691545,8212203176049278890,7933485763601977624,15227483606004533461,11215392098479208961,446995266069924076,4946147512530127568,3419001889969749887,5233118043267047457,6124413428159637790,15475723433398761304,5395340147747708899,6420159726195949164,9959121941294770655,3520257249291928256,2015444344454546412,12826555694032677247,1725486776273817318,8006371003960147343,2259672571474061568,10236332898609347644,8274446707539698164,10539347186207431242,15554417296805563061,3075201292733833056,16773468814595293053,2768188642542392010,10341888390210383824,2576523973992343609,4849480874435393781,11151835277377553703,622995879521568732,10888863842102328177,16378183091871739711,15763482434359817770,13437419889732721216,855453113358079251,2172276787581067923,15495752065017430504,12715800853834201459,2846267367221353805,4859391219904099992,13069393092227542028,2570914705882880060,8919978131948313185,17937168697417666835,8222940686941784037,4903002758410956813,3726453103677007866,11525993766095887173,14903569129155370506,11853640710764476214,17823556299335049440,8908233856664302321,4186743451310774866,16086907953836968628,18105302477358141223,9744259246892133002]
#check [7921390202802761869,13813618637161013713,10297410513487048360,13348088958985639553,3436067635600285980,2956708394376553000,13343918040275786880,12147665669636231765,4290864757253303354,2527701527901579348,9387514328989991554,5874822333441161849,694261584828832409,5342471268416680606,18031968618487185184,354308444213283272,4046790133079468173,2694234056635809718,4565167180653195659,8428246938381088814,13996866031312336078,4309217394794523951,14760874974797668852,13142635158332540280,13215348057498601715,14398111036562950334,17499849576073844966,5920806927976990809]
end PySem.W.Fast
set_option maxHeartbeats 0 in
open_top hd for PySem.Challenge.rw_loanroll_k47_whole_far_accounts
local macro_rules | `(tactic| walk_at "o") => `(tactic| first | lia | omega)
local macro_rules | `(tactic| ac_rfl)=>`(tactic| walk_at "o")
open List renaming getElem?_eq_getElem→yaa,length_map→yab,getElem?_eq_some_iff→yac,getD_eq_getElem?_getD→yad,mem_of_getElem?→yae,mem_append→yaf,mem_append_right→yag,mem_map→yah,length_append→yai,getElem?_map→yaj,mem_cons→yak,mem_filter→yal,mem_cons_of_mem→yam,filter_cons_of_pos→yan,size_toArray→yao,filter_cons_of_neg→yap,length_filter_le→yaq,find?_cons_of_neg→yar,mem_cons_self→yas,getElem?_eq_none→yat,map_append→yau,mem_iff_getElem?→yav,find?_cons_of_pos→yaw,pairwise_iff_getElem→yax,mem_map_of_mem→yay,take_of_length_le→yaz,mem_iff_getElem→yba,take_add_one→ybb,length_cons→ybc,filter_append→ybd,length_take→ybe,map_map→ybf,range→ybg,getElem?_append_right→ybh,map_cons→ybi,nodup_cons→ybj,getElem?_append_left→ybk,toArray→ybl,pairwise_map→ybm,mem_append_left→ybn,pairwise_append→ybo,length_pos_of_mem→ybp,foldl_cons→ybq,length_singleton→ybr,mem_singleton→ybs,pairwise_singleton→ybt,not_mem_nil→ybu,filter_eq_nil_iff→ybv,getElem?_eq_none_iff→ybw,length_erase_of_mem→ybx,lookup→yby,ext_getElem?→ybz,filter_congr→yca,filterMap_cons→ycb,getElem?_range→ycc,take_length→ycd,any_eq_true→yce,pairwise_cons→ycf,filter_filter→ycg,any_cons→ych,append_nil→yci,nodup_append→ycj,foldl_append→yck,getElem?_zip_eq_some→ycl,mem_erase_of_ne→ycm,map_congr_left→ycn,filter_reverse→yco,getElem_mem→ycp,map_reverse→ycq,length_range→ycr,reverse_cons→ycs,length_drop→yct,getElem_map→ycu,mem_reverse→ycv,length_reverse→ycw,range_succ→ycx,filter_map→ycy
open Nat renaming le_refl→ycz,ne_of_lt→yda,zero_le→ydb,lt_of_le_of_lt→ydc,lt_of_lt_of_le→ydd,le_trans→yde,lt_irrefl→ydf,lt_succ_self→ydg,lt_trichotomy→ydh,lt_trans→ydi,lt_succ_of_lt→ydj,ne_of_gt→ydk,le_succ→ydl,le_of_lt→ydm,sub_self→ydn,lt_or_ge→ydo
open PySem.Heap renaming get?_push_of_some→ydp,lt_size→ydq,get?_push_size→ydr,get?_update_other→yds,get?_update_ne→ydt,get?_update_self→ydu,size_push→ydv,get?_none_of_le→ydw
open Int renaming emod_lt_of_pos→ydx,emod_nonneg→ydy,le_refl→ydz,zero_add→yea,lt_trichotomy→yeb
open Array renaming length_toList→yec,getElem?_eq_getElem→yed,getD_eq_getD_getElem?→yee,getElem?_toList→yef,getD→yeg
namespace L2
open PySem PySem.Spec PyProof.Rows
noncomputable abbrev Key:=Sum Int Str
noncomputable def zot:Key->Value->Bool
 | .inl k,v=>Value.isInt k v
 | .inr x,v=>Value.isStrOf x v
noncomputable def zx7 (w:World):Key->Int
 | .inl k=>hashInt k
 | .inr x=>hashStr w x
theorem za2:∀ {k:Key} {v:Value},zot k v=true->(∃ i t,k=Sum.inl i/\v=Value.int i t)\/(∃ x t,k=Sum.inr x/\v=Value.str x t)
 | .inl i,v,h=>by
  obtain ⟨t,e⟩:=Value.isInt_shape (k:=i) (v:=v) h
  exact .inl ⟨i,t,rfl,e⟩
 | .inr x,v,h=>by
  obtain ⟨t,e⟩:=Value.isStrOf_shape (x:=x) (v:=v) h
  exact .inr ⟨x,t,rfl,e⟩
theorem zs4 (x:Str) (t:Tok):zot (.inr x) (.str x t)=true:=by simp[zot,Value.isStrOf]
theorem zwA (a b:Int):decide ((Sum.inl a:Key)=Sum.inl b)=(a == b):=by
 by_cases e:a=b
 ·subst e;simp
 ·have h:¬ (Sum.inl a:Key)=Sum.inl b:=fun q=>e (Sum.inl.inj q)
  rw[decide_eq_false h]
  exact (beq_eq_false_iff_ne.mpr e).symm
theorem zwQ (a b:Str):decide ((Sum.inr a:Key)=Sum.inr b)=decide (a=b):=by
 by_cases e:a=b
 ·subst e;simp
 ·have h:¬ (Sum.inr a:Key)=Sum.inr b:=fun q=>e (Sum.inr.inj q)
  rw[decide_eq_false h,decide_eq_false e]
theorem zwV (a:Int) (b:Str):decide ((Sum.inl a:Key)=Sum.inr b)=false:=decide_eq_false (fun q=>nomatch q)
theorem zw3 (a:Str) (b:Int):decide ((Sum.inr a:Key)=Sum.inl b)=false:=decide_eq_false (fun q=>nomatch q)
noncomputable def zgc (prog:Program) (w:World):PySem.KeyKind prog w Key where
 is:=zot
 hash:=zx7 w
 inj:=fun v a b ha hb=>by
  rcases za2 ha with ⟨i,t,rfl,rfl⟩ | ⟨x,t,rfl,rfl⟩
  ·rcases za2 hb with ⟨j,u,rfl,e⟩ | ⟨y,u,rfl,e⟩
   ·injection e with e1 _;rw[e1]
   ·exact nomatch e
  ·rcases za2 hb with ⟨j,u,rfl,e⟩ | ⟨y,u,rfl,e⟩
   ·exact nomatch e
   ·injection e with e1 _;rw[e1]
 byValue:=fun k v h=>by
  rcases za2 h with ⟨i,t,rfl,rfl⟩ | ⟨x,t,rfl,rfl⟩ <;> rfl
 pyHash:=fun hv h=>by
  rcases za2 hv with ⟨i,t,rfl,rfl⟩ | ⟨x,t,rfl,rfl⟩
  ·exact wpAny_pyHash_int h
  ·exact wpAny_pyHash_str h
 eqBool:=fun hu hv h=>by
  rcases za2 hu with ⟨i,t,rfl,rfl⟩ | ⟨x,t,rfl,rfl⟩
  ·rcases za2 hv with ⟨j,u,rfl,rfl⟩ | ⟨y,u,rfl,rfl⟩
   ·rw[zwA] at h;exact wpAny_eqBool_int h
   ·rw[zwV] at h;exact SeqAt.EqAt.int_str i t y u _ _ _ _ h
  ·rcases za2 hv with ⟨j,u,rfl,rfl⟩ | ⟨y,u,rfl,rfl⟩
   ·rw[zw3] at h;exact SeqAt.EqAt.str_int x t j u _ _ _ _ h
   ·rw[zwQ] at h;exact wpAny_eqBool_str h
 «strs»:=fun k x t v h=>by
  rcases za2 h with ⟨i,u,rfl,e⟩ | ⟨y,u,rfl,e⟩
  ·exact nomatch e
  ·injection e with e1 _
   subst e1
   cases v <;> rfl
theorem ze5 (prog:Program) (w:World) (x:Str) (t:Tok):(zgc prog w).is (.inr x) (.str x t)=true:=zs4 x t
inductive V where
 | non | bl (b:Bool) | int (i:Int) | str (x:Str) | byt (b:Array UInt8) | flt (b:UInt64) | ref (a:Addr) | ty (n:String)
 deriving DecidableEq
noncomputable def RelV:V->Value->Prop
 | .non,u=>u=Value.none
 | .bl b,u=>u=Value.bool b
 | .int i,u=>∃ t,u=Value.int i t
 | .str x,u=>∃ t,u=Value.str x t
 | .byt b,u=>∃ t,u=Value.bytes b t
 | .flt b,u=>∃ t,u=Value.float b t
 | .ref a,u=>u=Value.ref a
 | .ty n,u=>u=Value.type n
noncomputable abbrev Vals:List V->List Value->Prop:=Paired RelV
theorem Vals.length {xs:List V} {us:List Value} (r:Vals xs us):xs.length=us.length:=Paired.length r
theorem Vals.get:∀ {xs:List V} {us:List Value} {i:Nat} {x:V},Vals xs us->xs[i]?=some x->∃ u,us[i]?=some u/\RelV x u
 | _,_,_,_,.nil,e=>by simp at e
 | _,_,0,_,.cons r _,e=>by simp at e;subst e;exact ⟨_,rfl,r⟩
 | _,_,i+1,x,.cons _ t,e=>by
  obtain ⟨u,h1,h2⟩:=Vals.get (i:=i) (x:=x) t (by simpa using e)
  exact ⟨u,by simpa using h1,h2⟩
theorem Vals.set {x:V} {u:Value} (r:RelV x u):∀ {xs:List V} {us:List Value} (i:Nat),Vals xs us->Vals (xs.set i x) (us.set i u)
 | _,_,_,.nil=>.nil
 | _,_,0,.cons _ t=>.cons r t
 | _,_,i+1,.cons q t=>.cons q (Vals.set r i t)
theorem Vals.append:∀ {xs ys:List V} {us ws:List Value},Vals xs us->Vals ys ws->Vals (xs++ys) (us++ws)
 | _,_,_,_,.nil,s=>s
 | _,_,_,_,.cons r t,s=>.cons r (Vals.append t s)
theorem Vals.take:∀ {xs:List V} {us:List Value} (n:Nat),Vals xs us->Vals (xs.take n) (us.take n)
 | _,_,0,_=>.nil
 | _,_,_+1,.nil=>.nil
 | _,_,n+1,.cons r t=>.cons r (Vals.take n t)
theorem Vals.drop:∀ {xs:List V} {us:List Value} (n:Nat),Vals xs us->Vals (xs.drop n) (us.drop n)
 | _,_,0,r=>r
 | _,_,_+1,.nil=>.nil
 | _,_,n+1,.cons _ t=>Vals.drop n t
noncomputable def zhG:Option V->Option Value->Prop
 | some v,some u=>RelV v u
 | none,none=>True
 | _,_=>False
noncomputable def KV {κ:Type}:List (κ × V)->List (κ × Value)->Prop:=Paired fun (p:κ × V) (q:κ × Value)=>p.1=q.1/\RelV p.2 q.2
inductive HO where
 /-- a list -/
 | lst (xs:List V)
 /-- a tuple (never changes) -/
 | tup (xs:List V)
 /-- a dict whose keys are ints and texts;one whose keys are tuples of ints and texts (the empty one is both) -/
 | dK (kvs:List (Key × V))
 /-- a set of ints: its members,its size -/
 | set (S:Int->Bool) (n:Nat)
 /-- an instance of the class at C,its dict at dx,its attributes -/
 | ins (C dx:Addr) (fs:List (Str × V))
 /-- the dict of the instance at x -/
 | own (x:Addr)
 /-- the dict of an exception -/
 | xd (fs:List (Str × V))
 /-- a bound method,f of x -/
 | met (f x:Addr)
 /-- a range object lo,lo+1,.. below hi -/
 | rng (lo hi:Int)
 /-- a thing that is known to the object (the script;a dict while a loop walks it): read,never written while it is so -/
 | frz (o:Obj) (u:HO)
 /-- a code object's table -/
 | tbl (ps:Array Value)
 /-- any other thing,by what is true of its one object (a def of one's own: zsG a S n:=HO.ext fun h=>..) -/
 | ext (φ:Heap->Prop)
noncomputable abbrev Hp:=Addr->Option HO
noncomputable def upd (H:Hp) (a:Addr) (o:HO):Hp:=fun b=>if b=a then some o else H b
theorem zg {H:Hp} {a:Addr} {o:HO}:upd H a o a=some o:=by unfold upd;rw[if_pos rfl]
theorem zr {H:Hp} {a b:Addr} {o:HO} (h:b≠a):upd H a o b=H b:=by unfold upd;rw[if_neg h]
theorem zZ {H:Hp} {a:Addr} {o u:HO}:upd (upd H a o) a u=upd H a u:=by
 funext b;unfold upd;split <;> rfl
theorem zau {H:Hp} {a b:Addr} {o u:HO} (h:H a=some o) (h':H b=some u) (d:o≠u):a≠b:=by
 intro e;subst e;rw[h] at h';exact d (Option.some.inj h')
theorem zW {H:Hp} {a b:Addr} {o:HO} (h:H a=some o) (h':H b=none):a≠b:=by
 intro e;subst e;rw[h] at h';cases h'
section
variable (P:Program) (w:World)
noncomputable def zai (H:Hp) (h:Heap) (a:Addr):HO->Prop
 | .lst xs=>xs.length<=sizeLine/\∃ (its:List Value) (n:Nat),Vals xs its/\h.get? a=some { cls:=.type "list", data:=.seq its.toArray n }
 | .tup xs=>xs.length<=sizeLine/\∃ its:List Value,Vals xs its/\IsTup h a its.toArray
 | .dK kvs=>kvs.length<=sizeLine/\(a == sysModules)=false/\∃ vs,KV kvs vs/\h.DictOf (zgc P w) a vs
 | .set S n=>h.SetOf (intKind P w) a S n
 | .ins C dx fs=>H dx=some (.own a)/\fs.length<=1000/\dx≠a/\h.get? a=some (PySem.W.instObj C dx) /\
   ∃ mA,h.Ns1 dx mA/\(∀ f,zhG (fs.lookup f) (mA f))/\PySem.Within mA (fs.map (·.1))
 | .own _=>∃ o,h.get? a=some o
 | .xd fs=>∃ mA,h.Ns1 a mA/\∀ f,zhG (fs.lookup f) (mA f)
 | .rng lo hi=>∃ t u v,h.get? a=some { cls:=.type "range", data:=.fields #[.int lo t,.int hi u,.int 1 v] }
 | .frz o u=>h.get? a=some o/\zai H h a u
 | .tbl ps=>h.get? a=some { cls:=.none,data:=.fields ps }
 | .met f x=>h.get? a=some (PySem.W.methodObj (.ref f) (.ref x))
 | .ext φ=>φ h/\(∃ o,h.get? a=some o)/\∀ h1 h2:Heap,φ h1->(∀ o,h1.get? a=some o->h2.get? a=some o)->φ h2
def HOk (H:Hp) (h:Heap):Prop:=∀ a o,H a=some o->zai P w H h a o
end
section
variable {P:Program} {w:World} {H H':Hp} {h h':Heap} {a:Addr} {o:HO}
theorem zai.lt (x:zai P w H h a o):a<h.objs.size:=by
 cases o with
 | lst xs=>obtain ⟨_,_,_,_,e⟩:=x;exact ydq e
 | tup xs=>obtain ⟨_,_,_,p⟩:=x;exact p.lt
 | dK kvs=>obtain ⟨_,_,_,_,o,_,_,e,_⟩:=x;exact ydq e
 | set S n=>obtain ⟨o,_,_,_,e,_⟩:=x;exact ydq e
 | ins C dx fs=>obtain ⟨_,_,_,e,_⟩:=x;exact ydq e
 | own y=>obtain ⟨_,e⟩:=x;exact ydq e
 | xd fs=>obtain ⟨_,⟨_,_,_,e,_⟩,_⟩:=x;exact ydq e
 | rng lo hi=>obtain ⟨_,_,_,e⟩:=x;exact ydq e
 | frz ob u=>obtain ⟨e,_⟩:=x;exact ydq e
 | tbl ps=>exact ydq (show h.get? a=some _ from x)
 | met f y=>exact ydq (show h.get? a=some _ from x)
 | ext φ=>obtain ⟨_,⟨_,e⟩,_⟩:=x;exact ydq e
theorem zai.stay (x:zai P w H h a o) (k:∀ b u,(b=a\/H b=some (.own a))->h.get? b=some u->h'.get? b=some u)
  (ho:∀ b,H b=some (.own a)->H' b=some (.own a)) (ht:∀ b xs,H b=some (.tup xs)->H' b=some (.tup xs)):zai P w H' h' a o:=by
 induction o with
 | lst xs=>obtain ⟨z,its,n,r,e⟩:=x;exact ⟨z,its,n,r,k _ _ (.inl rfl) e⟩
 | tup xs=>obtain ⟨z,its,r,ob,e,c⟩:=x;exact ⟨z,its,r,ob,k _ _ (.inl rfl) e,c⟩
 | dK kvs=>obtain ⟨z,y,vs,r,ob,es,ep,e,c⟩:=x;exact ⟨z,y,vs,r,ob,es,ep,k _ _ (.inl rfl) e,c⟩
 | set S n=>obtain ⟨ob,es,ep,t,e,c⟩:=x;exact ⟨ob,es,ep,t,k _ _ (.inl rfl) e,c⟩
 | ins C dx fs =>
  obtain ⟨d,z,ne,e,mA,⟨od,es,ep,e2,c⟩,r⟩:=x
  exact ⟨ho _ d,z,ne,k _ _ (.inl rfl) e,mA,⟨od,es,ep,k _ _ (.inr d) e2,c⟩,r⟩
 | own y=>obtain ⟨ob,e⟩:=x;exact ⟨ob,k _ _ (.inl rfl) e⟩
 | xd fs=>obtain ⟨mA,⟨od,es,ep,e,c⟩,r⟩:=x;exact ⟨mA,⟨od,es,ep,k _ _ (.inl rfl) e,c⟩,r⟩
 | rng lo hi=>obtain ⟨t,u,v,e⟩:=x;exact ⟨t,u,v,k _ _ (.inl rfl) e⟩
 | frz ob u ih=>obtain ⟨e,q⟩:=x;exact ⟨k _ _ (.inl rfl) e,ih q⟩
 | tbl ps =>
  have e:h.get? a=some { cls:=.none,data:=.fields ps }:=x
  show h'.get? a=some { cls:=.none,data:=.fields ps }
  exact k a _ (.inl rfl) e
 | met f y =>
  have e:h.get? a=some (PySem.W.methodObj (.ref f) (.ref y)):=x
  show h'.get? a=some (PySem.W.methodObj (.ref f) (.ref y))
  exact k a _ (.inl rfl) e
 | ext φ=>obtain ⟨p,⟨o,e⟩,st⟩:=x;exact ⟨st _ _ p fun o q=>k _ _ (.inl rfl) q,⟨o,k _ _ (.inl rfl) e⟩,st⟩
theorem HOk.lt (x:HOk P w H h) (e:H a=some o):a<h.objs.size:=(x a o e).lt
theorem HOk.fresh (x:HOk P w H h) (e:h.objs.size<=a):H a=none:=by
 cases q:H a with
 | none=>rfl
 | some u=>exact absurd (ydd (x.lt q) e) (ydf _)
theorem HOk.kept (x:HOk P w H h) (k:∀ b u,h.get? b=some u->h'.get? b=some u):HOk P w H h':=fun a o e =>
 (x a o e).stay (fun b u _ q=>k b u q) (fun _ q=>q) fun _ _ q=>q
theorem HOk.laid (x:HOk P w H h) (k:∀ b u,h.get? b=some u->h'.get? b=some u) (hp:h.objs.size<=a) (new:zai P w (upd H a o) h' a o):HOk P w (upd H a o) h':=fun b u e=>by
 have hn:=x.fresh hp
 by_cases hb:b=a
 ·subst hb;rw[zg] at e;cases e;exact new
 ·rw[zr hb] at e
  exact (x b u e).stay (fun c v _ q=>k c v q) (fun c q=>by rw[zr (zW q hn)];exact q) fun c xs q=>by rw[zr (zW q hn)];exact q
end
def Rd (H:Hp) (a:Addr) (u:HO):Prop:=H a=some u\/∃ o,H a=some (.frz o u)
theorem Rd.ok {P:Program} {w:World} {H:Hp} {h:Heap} {a:Addr} {u:HO} (r:Rd H a u) (x:HOk P w H h):zai P w H h a u:=by
 rcases r with r | ⟨o,r⟩
 ·exact x a u r
 ·obtain ⟨_,q⟩:=x a _ r
  exact q
noncomputable def Mut:Option HO->Prop
 | some (.lst _)=>True
 | some (.dK _)=>True
 | some (.set _ _)=>True
 | some (.ins _ _ _)=>True
 | some (.ext _)=>True
 | _=>False
section
variable {P:Program} {w:World} {H:Hp} {h h':Heap} {x e:Addr} {o':HO}
theorem HOk.write (ok:HOk P w H h) (mu:Mut (H x)) (he:e=x\/H e=some (.own x)) (k:∀ b u,b≠e->h.get? b=some u->h'.get? b=some u) (heo:∃ u,h'.get? e=some u)
  (new:zai P w (upd H x o') h' x o'):HOk P w (upd H x o') h':=fun b u q=>by
 have nown:∀ c y,H c=some (.own y)->c≠x:=fun c y r z=>by subst z;rw[r] at mu;exact mu
 have ntup:∀ c xs,H c=some (.tup xs)->c≠x:=fun c xs r z=>by subst z;rw[r] at mu;exact mu
 by_cases hb:b=x
 ·subst hb;rw[zg] at q;cases q;exact new
 ·rw[zr hb] at q
  by_cases hbe:b=e
  ·have q':H b=some (.own x):=by
    rcases he with z | z
    ·exact absurd (hbe.trans z) hb
    ·rw[hbe];exact z
   rw[q] at q';cases q'
   obtain ⟨v,hv⟩:=heo
   exact ⟨v,by rw[hbe];exact hv⟩
  ·refine (ok b u q).stay (fun c v hc r=>k c v ?_ r) (fun c r=>by rw[zr (nown c b r)];exact r) fun c xs r=>by rw[zr (ntup c xs r)];exact r
   rcases hc with rfl | hc
   ·exact hbe
   ·rintro rfl
    rcases he with z | z
    ·exact nown c b hc z
    ·rw[hc] at z;cases z;exact hb rfl
end
set_option genInjectivity false
structure Un (fs ex:List Addr) (H H':Hp) (h h':Heap):Prop where
 keep:∀ b o,h.get? b=some o->H b=none->b ∉ fs->b ∉ ex->h'.get? b=some o
 slot:∀ b o,h.get? b=some o->H b=none->b∈fs->b ∉ ex->∃ sl,h'.get? b=some { o with slots:=sl }
 free:∀ b o,h.get? b=some o->H b=none->b ∉ ex->H' b=none
 there:∀ b o,h.get? b=some o->b ∉ ex->∃ o',h'.get? b=some o'
 tups:∀ b xs,H b=some (.tup xs)->H' b=some (.tup xs)
 frzs:∀ b o u,H b=some (.frz o u)->H' b=some (.frz o u)
 tbls:∀ b ps,H b=some (.tbl ps)->∃ more,H' b=some (.tbl (ps++more))
section
variable {fs fs' ex ex':List Addr} {H H1 H2:Hp} {h h1 h2 h':Heap} {a x e:Addr} {o:HO}
theorem Un.any (u:Un fs ex H H1 h h1) {b:Addr} {ob:Obj} (q:h.get? b=some ob) (n:H b=none) (hx:b ∉ ex):∃ sl,h1.get? b=some { ob with slots:=sl }:=by
 by_cases hb:b∈fs
 ·exact u.slot b ob q n hb hx
 ·exact ⟨ob.slots,u.keep b ob q n hb hx⟩
theorem Un.kept (k:∀ b u,h.get? b=some u->h'.get? b=some u):Un fs ex H H h h' :=
 ⟨fun b ob q _ _ _=>k b ob q,fun b ob q _ _ _=>⟨ob.slots,k b ob q⟩,fun _ _ _ n _=>n,fun b ob q _=>⟨ob,k b ob q⟩,fun _ _ q=>q,fun _ _ _ q=>q,fun _ ps q=>⟨#[],by rw[q];simp⟩⟩
theorem Un.refl:Un fs ex H H h h:=Un.kept fun _ _ q=>q
theorem Un.laid (k:∀ b u,h.get? b=some u->h'.get? b=some u) (hp:h.objs.size<=a) (hn:H a=none):Un fs ex H (upd H a o) h h' where
 keep:=fun b u q _ _ _=>k b u q
 slot:=fun b u q _ _ _=>⟨u.slots,k b u q⟩
 free:=fun b u q n _=>by rw[zr (yda (ydd (ydq q) hp))];exact n
 there:=fun b u q _=>⟨u,k b u q⟩
 tups:=fun b xs q=>by rw[zr (zW q hn)];exact q
 frzs:=fun b u xs q=>by rw[zr (zW q hn)];exact q
 tbls:=fun b ps q=>⟨#[],by rw[zr (zW q hn),q];simp⟩
theorem Un.write (mu:Mut (H x)) (he:e=x\/H e=some (.own x)) (k:∀ b u,b≠e->h.get? b=some u->h'.get? b=some u) (heo:∃ u,h'.get? e=some u):Un fs ex H (upd H x o) h h':=by
 have hx:∀ b,H b=none->b≠x:=fun b n z=>by subst z;rw[n] at mu;exact mu
 have hb:∀ b,H b=none->b≠e:=fun b n z=>by
  subst z
  rcases he with r | r
  ·exact hx b n r
  ·rw[n] at r;cases r
 have hm:∀ b u,H b=some u->¬ Mut (some u)->b≠x:=fun b u q nm z=>by subst z;rw[q] at mu;exact nm mu
 refine ⟨fun b u q n _ _=>k b u (hb b n) q,fun b u q n _ _=>⟨u.slots,k b u (hb b n) q⟩,fun b u q n _=>by rw[zr (hx b n)];exact n,fun b u q _=>?_,
  fun b xs q=>by rw[zr (hm b _ q fun z=>z)];exact q,fun b u xs q=>by rw[zr (hm b _ q fun z=>z)];exact q,fun b ps q=>⟨#[],by rw[zr (hm b _ q fun z=>z),q];simp⟩⟩
 by_cases hbe:b=e
 ·subst hbe;exact heo
 ·exact ⟨u,k b u hbe q⟩
end
noncomputable def trk (h:Heap) (H:Hp):List Addr:=(ybg h.objs.size).filter fun a=>(H a).isSome
noncomputable def zjf (h:Heap) (H:Hp):Heap:=PySem.W.hideAll h (trk h H)
theorem zsR (h:Heap) (H:Hp):(zjf h H).objs.size=h.objs.size:=PySem.W.hideAll_size _ _
theorem zuC {h:Heap} {H:Hp} {b:Addr} {o:Obj} (e:h.get? b=some o) (n:H b=none):(zjf h H).get? b=some o :=
 PySem.W.hideAll_get _ e fun hm=>by
  have q:(H b).isSome=true:=(yal.mp hm).2
  rw[n] at q;simp at q
theorem zv9 {h:Heap} {H:Hp} {b:Addr} {o:Obj} (e:(zjf h H).get? b=some o):h.get? b=some o/\H b=none:=by
 have e':h.get? b=some o:=PySem.W.of_hideAll (trk h H) e
 refine ⟨e',?_⟩
 cases q:H b with
 | none=>rfl
 | some x =>
  have hm:b∈trk h H:=yal.mpr ⟨List.mem_range.mpr (ydq e'),by simp[q]⟩
  have z:(zjf h H).get? b=none:=PySem.W.hideAll_none (trk h H) hm
  rw[z] at e;cases e
noncomputable def zvP (g h:Heap) (L:Addr):List (Addr × Obj):=(ybg h.objs.size).filterMap fun a=>if a=L\/(g.get? a).isSome=true then none else (h.get? a).map fun o=>(a,o)
noncomputable def rest (g h:Heap) (L d:Addr):List (Addr × Obj):=(zvP g h L).filter fun p=>decide (p.1≠d)
structure Mod (K:W.Frag) (mg:Str->Option Value) (base:Heap):Prop where
 kin:K.In base
 glob:base.Ns mainGlobals mg
 blt:∃ mb,base.Ns builtinsNs mb/\∀ x:Str,x ≠ "__name__" -> mb x=bootBuiltins x
 nolimit:base.NoLimit
structure Cx where
 prog:Program
 w:World
 K:W.Frag
 mg:Str->Option Value
 base:Heap
 A:Around
 N:List Str
 s₀:Shared
 H₀:Hp
 env:Env
 outer:List Env
 stack:List Env
 ex:List Addr
 fn:Str->Bool
 calm:Bool
 pn:List (Addr × Obj)
 xe:Value->Shared->Prop
noncomputable def frs (l:List Env):List Addr:=l.filterMap (·.frame)
noncomputable abbrev Cx.fs (X:Cx):List Addr:=frs X.outer
def Vis (sc:Scope) (x:Str):Prop:=sc.names.lookup x=some .local\/sc.names.lookup x=some .cell\/sc.names.lookup x=some .free
def Loc (sc:Scope) (x:Str):Prop:=sc.names.lookup x=some .local\/sc.names.lookup x=some .cell
def Look (env:Env) (h:Heap) (m:Str->Option Value) (x:Str) (u:Value):Prop :=
 (env.kindOf x=some .local/\m x=some u)\/((env.kindOf x=some .cell\/env.kindOf x=some .free)/\∃ c,env.cells.lookup x=some c/\h.IsCell c (some u))
structure Cx.Ok (X:Cx):Prop where
 mod:Mod X.K X.mg X.base
 kind:X.env.scope.kind=.function
 glob:X.env.globals=mainGlobals
 blt:X.env.builtins=builtinsNs
 above:X.s₀.heap.objs.size<=X.env.locals
 inj:∀ x y c,X.env.cells.lookup x=some c->X.env.cells.lookup y=some c->x=y
 has:∀ x,(X.env.kindOf x=some .cell\/X.env.kindOf x=some .free)->∃ c,X.env.cells.lookup x=some c
 cab:∀ x c,X.fn x=true->X.env.cells.lookup x=some c->X.s₀.heap.objs.size<=c
 hd:X.calm=true->X.A.handled=none
 frames:X.A.frames=some X.stack
 stk:X.stack=X.outer\/(X.stack=X.env::X.outer/\X.env.frame=some X.env.locals)
 exf:∀ b∈X.ex,b≠X.env.locals/\∀ x c,X.env.cells.lookup x=some c->c≠b
 bs:∀ b o,X.base.get? b=some o->X.s₀.heap.get? b=some o/\X.H₀ b=none
 bsz:X.base.objs.size<=X.s₀.heap.objs.size
 noex:∀ b o,X.base.get? b=some o->b ∉ X.ex
 exfs:∀ b∈X.ex,b ∉ X.fs
 funs:X.s₀.heap.FunFrames X.base X.outer
 frf:∀ b∈X.fs,X.H₀ b=none
structure Inv (X:Cx) (pins:List (Addr × Obj)) (σ:List (Option V)) (H:Hp) (s:Shared):Prop where
 ok:X.Ok
 os:s.os=X.s₀.os
 bare:AllBare s.gens
 base:Un X.fs X.ex X.H₀ H X.s₀.heap s.heap
 loc:∃ m,s.heap.Ns X.env.locals m/\∀ (i:Nat) (x:Str) (v:V),X.N[i]?=some x->σ[i]?=some (some v)->Vis X.env.scope x->∃ u,RelV v u/\Look X.env s.heap m x u
 cell:∀ x c,X.env.cells.lookup x=some c->∃ v,s.heap.IsCell c v
 free:H X.env.locals=none
 freeC:∀ x c,X.env.cells.lookup x=some c->H c=none
 pin:∀ p∈X.pn++pins,s.heap.get? p.1=some p.2/\H p.1=none/\p.1≠X.env.locals/\p.1 ∉ X.fs/\∀ v,p.2.data≠.cell v
 hok:HOk X.prog X.w H s.heap
 len:σ.length=X.N.length
section
variable {X:Cx} {pins:List (Addr × Obj)} {σ:List (Option V)} {H H':Hp} {s:Shared} {h':Heap}
theorem Cx.Ok.nofr (ok:X.Ok) {b:Addr} {o:Obj} (e:X.base.get? b=some o):b ∉ X.fs:=fun hb=>by
 have:=(ok.funs.mem hb).1
 rw[e] at this;cases this
theorem Inv.bs (I:Inv X pins σ H s):∀ b o,X.base.get? b=some o->s.heap.get? b=some o/\H b=none:=fun b o e =>
 ⟨I.base.keep b o (I.ok.bs b o e).1 (I.ok.bs b o e).2 (I.ok.nofr e) (I.ok.noex b o e),I.base.free b o (I.ok.bs b o e).1 (I.ok.bs b o e).2 (I.ok.noex b o e)⟩
theorem Inv.bk (I:Inv X pins σ H s):∀ b o,X.base.get? b=some o->s.heap.get? b=some o:=fun b o e=>(I.bs b o e).1
theorem Inv.mod (I:Inv X pins σ H s):Mod X.K X.mg X.base:=I.ok.mod
theorem Inv.kIn (I:Inv X pins σ H s):X.K.In s.heap:=I.ok.mod.kin.keeps I.bk
theorem Inv.lt (I:Inv X pins σ H s):X.env.locals<s.heap.objs.size:=let ⟨_,hn,_⟩:=I.loc;hn.lt
theorem Inv.sz (I:Inv X pins σ H s):X.s₀.heap.objs.size<=s.heap.objs.size:=yde I.ok.above (ydm I.lt)
theorem Inv.nofs (I:Inv X pins σ H s) {a:Addr} (h:s.heap.objs.size<=a):a ∉ X.fs:=fun hb=>by
 obtain ⟨_,o,ho,_⟩:=I.ok.funs.mem hb
 exact absurd (ydd (ydq ho) (yde I.sz h)) (ydf _)
theorem Inv.cne (I:Inv X pins σ H s):∀ x c,X.env.cells.lookup x=some c->c≠X.env.locals:=fun x c e z=>by
 obtain ⟨v,o,ho,hd⟩:=I.cell x c e
 obtain ⟨m,⟨o',es,ep,ho',hd',_⟩,_⟩:=I.loc
 rw[z,ho'] at ho;cases ho;rw[hd'] at hd;cases hd
theorem Inv.funs (I:Inv X pins σ H s):s.heap.FunFrames X.base X.outer:=by
 have all:∀ (l:List Env),(∀ b∈frs l,b∈X.fs)->X.s₀.heap.FunFrames X.base l->s.heap.FunFrames X.base l:=by
  intro l
  induction l with
  | nil=>intro _ _;trivial
  | cons env r ih =>
   intro hs hl
   obtain ⟨hk,⟨L,o,hf,hn,ho,hd⟩,hr⟩:=hl
   have hL:L∈X.fs:=hs L (by unfold frs;rw[ycb,hf];exact yas)
   obtain ⟨sl,e⟩:=I.base.slot L o ho (I.ok.frf L hL) hL fun z=>I.ok.exfs L z hL
   exact ⟨hk,⟨L,_,hf,hn,e,hd⟩,ih (fun b hb=>hs b (by unfold frs;rw[ycb,hf];exact yam _ hb)) hr⟩
 exact all X.outer (fun _ hb=>hb) I.ok.funs
theorem Inv.stack (I:Inv X pins σ H s):s.heap.FunFrames X.base X.stack:=by
 rcases I.ok.stk with e | ⟨e,hf⟩
 ·rw[e];exact I.funs
 ·rw[e]
  obtain ⟨m,hn,_⟩:=I.loc
  refine .cons (by rw[I.ok.kind];decide) hf hn ?_ I.funs
  exact ydw (yde I.ok.bsz I.ok.above)
theorem Inv.zcf (I:Inv X pins σ H s):∀ b∈frs X.stack,b∈X.env.locals::X.fs:=fun b hb=>by
 rcases I.ok.stk with e | ⟨e,hf⟩
 ·rw[e] at hb;exact yam _ hb
 ·rw[e] at hb
  unfold frs at hb
  rw[ycb,hf] at hb
  exact hb
theorem Inv.zkL (I:Inv X pins σ H s):∀ b∈frs X.stack,H b=none:=fun b hb=>by
 rcases yak.mp (I.zcf b hb) with e | hb
 ·rw[e];exact I.free
 ·obtain ⟨_,o,ho,_⟩:=I.ok.funs.mem hb
  exact I.base.free b o ho (I.ok.frf b hb) fun z=>I.ok.exfs b z hb
theorem Inv.step {g':Array GenState} {t':Nat} {d':Drawn} {ch:List Addr} (I:Inv X pins σ H s)
  (hch:∀ b∈ch,(b∈X.ex\/X.s₀.heap.objs.size<=b)/\b≠X.env.locals/\(∀ x c,X.env.cells.lookup x=some c->c≠b)/\∀ p∈X.pn++pins,p.1≠b)
  (keep:∀ b o,b≠X.env.locals->b ∉ X.fs->b ∉ ch->s.heap.get? b=some o->H b=none->h'.get? b=some o)
  (slot:∀ b o,b≠X.env.locals->b∈X.fs->b ∉ ch->s.heap.get? b=some o->H b=none->∃ sl,h'.get? b=some { o with slots:=sl }) (free:∀ b o,b ∉ ch->s.heap.get? b=some o->H b=none->H' b=none)
  (there:∀ b o,b ∉ ch->s.heap.get? b=some o->∃ o',h'.get? b=some o')
  (tups:∀ b xs,H b=some (.tup xs)->H' b=some (.tup xs)) (frzs:∀ b o u,H b=some (.frz o u)->H' b=some (.frz o u)) (tbls:∀ b ps,H b=some (.tbl ps)->∃ more,H' b=some (.tbl (ps++more)))
  (ns:∀ m,s.heap.Ns X.env.locals m->h'.Ns X.env.locals m) (hok:HOk X.prog X.w H' h') (hg:AllBare g') :
  Inv X pins σ H' { s with heap:=h',gens:=g',drawn:=d',toks:=t' }:=by
 have neL:∀ b o,X.s₀.heap.get? b=some o->b≠X.env.locals:=fun b o e=>yda (ydd (ydq e) I.ok.above)
 have neC:∀ b o,X.s₀.heap.get? b=some o->b ∉ X.ex->b ∉ ch:=fun b o e hx hb=>by
  rcases (hch b hb).1 with z | z
  ·exact hx z
  ·exact absurd (ydd (ydq e) z) (ydf _)
 have cellK:∀ x c,X.env.cells.lookup x=some c->∀ v,s.heap.IsCell c v->h'.IsCell c v:=fun x c e v ⟨o,ho,hd⟩=>by
  have nch:c ∉ ch:=fun z=>(hch c z).2.2.1 x c e rfl
  by_cases hc:c∈X.fs
  ·obtain ⟨sl,q⟩:=slot c o (I.cne x c e) hc nch ho (I.freeC x c e)
   exact ⟨_,q,hd⟩
  ·exact ⟨o,keep c o (I.cne x c e) hc nch ho (I.freeC x c e),hd⟩
 refine ⟨I.ok,I.os,hg,⟨fun b o e n hb hx=>?_,fun b o e n hb hx=>?_,fun b o e n hx=>?_,fun b o e hx=>?_,fun b xs e=>tups b xs (I.base.tups b xs e),fun b o xs e=>frzs b o xs (I.base.frzs b o xs e),fun b ps e=>?_⟩,?_,fun x c e=>?_,?_,fun x c e=>?_,fun p hp=>?_,hok,I.len⟩
 ·exact keep b o (neL b o e) hb (neC b o e hx) (I.base.keep b o e n hb hx) (I.base.free b o e n hx)
 ·obtain ⟨sl,e1⟩:=I.base.slot b o e n hb hx
  obtain ⟨sl',e2⟩:=slot b _ (neL b o e) hb (neC b o e hx) e1 (I.base.free b o e n hx)
  exact ⟨sl',e2⟩
 ·obtain ⟨o',e1⟩:=I.base.there b o e hx
  exact free b o' (neC b o e hx) e1 (I.base.free b o e n hx)
 ·obtain ⟨o',e1⟩:=I.base.there b o e hx
  exact there b o' (neC b o e hx) e1
 ·obtain ⟨m1,e1⟩:=I.base.tbls b ps e
  obtain ⟨m2,e2⟩:=tbls b _ e1
  exact ⟨m1++m2,by rw[e2,Array.append_assoc]⟩
 ·obtain ⟨m,hn,hl⟩:=I.loc
  refine ⟨m,ns m hn,fun i x v e1 e2 e3=>?_⟩
  obtain ⟨u,r,l⟩:=hl i x v e1 e2 e3
  refine ⟨u,r,?_⟩
  rcases l with l | ⟨k,c,e,z⟩
  ·exact .inl l
  ·exact .inr ⟨k,c,e,cellK x c e _ z⟩
 ·obtain ⟨v,z⟩:=I.cell x c e
  exact ⟨v,cellK x c e v z⟩
 ·obtain ⟨m,⟨o,_,_,ho,_⟩,_⟩:=I.loc
  exact free _ o (fun z=>(hch _ z).2.1 rfl) ho I.free
 ·obtain ⟨v,o,ho,hd⟩:=I.cell x c e
  exact free c o (fun z=>(hch c z).2.2.1 x c e rfl) ho (I.freeC x c e)
 ·obtain ⟨e,n,ne,nf,d⟩:=I.pin p hp
  have nch:p.1 ∉ ch:=fun z=>(hch p.1 z).2.2.2 p hp rfl
  exact ⟨keep p.1 p.2 ne nf nch e n,free p.1 p.2 nch e n,ne,nf,d⟩
theorem Inv.un {t':Nat} (I:Inv X pins σ H s) (u:Un X.fs [] H H' s.heap h') (hok:HOk X.prog X.w H' h'):Inv X pins σ H' { s with heap:=h',toks:=t' }:=by
 obtain ⟨m,⟨o,es,ep,ho,r⟩,_⟩:=id I.loc
 obtain ⟨sl,hL⟩:=u.any ho I.free (by simp)
 exact I.step (g':=s.gens) (d':=s.drawn) (ch:=[]) (fun _ z=>nomatch z) (fun b o _ hb _ e n=>u.keep b o e n hb (by simp)) (fun b o _ hb _ e n=>u.slot b o e n hb (by simp)) (fun b o _ e n=>u.free b o e n (by simp)) (fun b o _ e=>u.there b o e (by simp)) u.tups u.frzs u.tbls (fun m' hm=>by
  obtain ⟨o',es',ep',ho',r'⟩:=hm
  rw[ho] at ho';cases ho'
  exact ⟨_,es',ep',hL,r'⟩) hok I.bare
theorem Inv.call {g':Array GenState} {t':Nat} {d':Drawn} {ch:List Addr} (I:Inv X pins σ H s) (u:Un (frs X.stack) ch H H' s.heap h') (hok:HOk X.prog X.w H' h') (hg:AllBare g')
  (hch:∀ b∈ch,(b∈X.ex\/X.s₀.heap.objs.size<=b)/\b≠X.env.locals/\(∀ x c,X.env.cells.lookup x=some c->c≠b)/\∀ p∈X.pn++pins,p.1≠b) :
  Inv X pins σ H' { s with heap:=h',gens:=g',drawn:=d',toks:=t' }:=by
 obtain ⟨m,⟨o,es,ep,ho,r⟩,_⟩:=id I.loc
 obtain ⟨sl,hL⟩:=u.any ho I.free fun z=>(hch _ z).2.1 rfl
 exact I.step (ch:=ch) hch (fun b o hL hb hc e n=>u.keep b o e n (fun z=>(yak.mp (I.zcf b z)).elim hL hb) hc) (fun b o _ _ hc e n=>u.any e n hc) (fun b o hc e n=>u.free b o e n hc) (fun b o hc e=>u.there b o e hc) u.tups u.frzs u.tbls (fun m' hm=>by
  obtain ⟨o',es',ep',ho',r'⟩:=hm
  rw[ho] at ho';cases ho'
  exact ⟨_,es',ep',hL,r'⟩) hok hg
theorem Inv.turned {t':Nat} {it:Addr} (I:Inv X pins σ H s) (k:∀ b o,b≠it->s.heap.get? b=some o->h'.get? b=some o) (hn:H it=none) (hL:it≠X.env.locals)
  (h1:it∈X.ex\/X.s₀.heap.objs.size<=it) (h2:∀ x c,X.env.cells.lookup x=some c->c≠it) (h3:∀ p∈X.pn++pins,p.1≠it):Inv X pins σ H { s with heap:=h',toks:=t' }:=by
 have nit:∀ b u,H b=some u->b≠it:=fun b u e z=>by rw[z,hn] at e;cases e
 refine I.step (g':=s.gens) (d':=s.drawn) (ch:=[it]) (fun b hb=>?_) (fun b o _ _ hc e _=>k b o (fun z=>hc (by simp[z])) e) (fun b o _ _ hc e _=>⟨o.slots,k b o (fun z=>hc (by simp[z])) e⟩) (fun _ _ _ _ n=>n)
  (fun b o hc e=>⟨o,k b o (fun z=>hc (by simp[z])) e⟩) (fun _ _ e=>e) (fun _ _ _ e=>e) (fun b ps e=>⟨#[],by rw[e];simp⟩) (fun m hm=>?_) (fun b u e=>?_) I.bare
 ·have e:b=it:=by simpa using hb
  subst e
  exact ⟨h1,hL,h2,h3⟩
 ·obtain ⟨o,es,ep,ho,r⟩:=hm
  exact ⟨o,es,ep,k _ o (Ne.symm hL) ho,r⟩
 ·refine (I.hok b u e).stay (fun c v hc q=>k c v ?_ q) (fun _ q=>q) fun _ _ q=>q
  rcases hc with z | z
  ·rw[z];exact nit b u e
  ·exact nit c _ z
theorem Inv.tok (I:Inv X pins σ H s) (t:Nat):Inv X pins σ H { s with toks:=t }:=I.un (h':=s.heap) (t':=t) Un.refl I.hok
theorem Inv.kept {t':Nat} (I:Inv X pins σ H s) (k:∀ b u,s.heap.get? b=some u->h'.get? b=some u):Inv X pins σ H { s with heap:=h',toks:=t' }:=I.un (Un.kept k) (I.hok.kept k)
theorem Inv.laid {a:Addr} {o:HO} {t':Nat} (I:Inv X pins σ H s) (k:∀ b u,s.heap.get? b=some u->h'.get? b=some u) (hp:s.heap.objs.size<=a) (new:zai X.prog X.w (upd H a o) h' a o) :
  Inv X pins σ (upd H a o) { s with heap:=h',toks:=t' }:=I.un (Un.laid k hp (I.hok.fresh hp)) (I.hok.laid k hp new)
theorem Inv.write {x e:Addr} {o:HO} {t':Nat} (I:Inv X pins σ H s) (mu:Mut (H x)) (he:e=x\/H e=some (.own x)) (k:∀ b u,b≠e->s.heap.get? b=some u->h'.get? b=some u) (heo:∃ u,h'.get? e=some u)
  (new:zai X.prog X.w (upd H x o) h' x o):Inv X pins σ (upd H x o) { s with heap:=h',toks:=t' }:=I.un (Un.write mu he k heo) (I.hok.write mu he k heo new)
theorem Inv.zmS {pins':List (Addr × Obj)} (I:Inv X pins σ H s) (h:∀ p∈pins',s.heap.get? p.1=some p.2/\H p.1=none/\p.1≠X.env.locals/\p.1 ∉ X.fs/\∀ v,p.2.data≠.cell v):Inv X pins' σ H s :=
 ⟨I.ok,I.os,I.bare,I.base,I.loc,I.cell,I.free,I.freeC,fun p hp=>(yaf.mp hp).elim (fun z=>I.pin p (ybn _ z)) (h p),I.hok,I.len⟩
theorem zoC {N:List Str} (hN:N.Nodup) {i j:Nat} {x:Str} (a:N[i]?=some x) (b:N[j]?=some x):i=j:=by
 obtain ⟨h1,e1⟩:=yac.mp a
 obtain ⟨h2,e2⟩:=yac.mp b
 exact (List.getElem_inj hN).mp (e1.trans e2.symm)
theorem ztJ {M:Model} {A:Around} {E:Value->Shared->Prop} {i:Nat} {x:Str} {v:V} {u:Value} {Q:Unit->Shared->Prop} (I:Inv X pins σ H s) (hN:X.N.Nodup) (hi:X.N[i]?=some x) (hx:Loc X.env.scope x) (r:RelV v u)
  (h:∀ s',Inv X pins (σ.set i (some v)) H s'->(∃ a,Heap.SameBut a s.heap s'.heap/\(a=X.env.locals\/X.env.cells.lookup x=some a))->Q () s') (hf:X.fn x=true\/X.env.scope.names.lookup x=some .local:=by first | exact .inl rfl | exact .inr rfl | assumption):wpAny M A (storeName X.env x u) Q E s:=by
 obtain ⟨m,hn,hl⟩:=id I.loc
 have hcls:(X.env.scope.kind == .class || (X.env.scope.kind == .module && X.env.locals != X.env.globals))=false:=by rw[I.ok.kind];rfl
 have hiσ:i<σ.length:=by rw[I.len];exact (yac.mp hi).1
 have cne:=I.cne
 have tracked:∀ {a:Addr} {h':Heap},(∃ o,s.heap.get? a=some o/\H a=none)->Heap.SameBut a s.heap h'->HOk X.prog X.w H h':=fun {a h'} ha hs b ob e=>by
  obtain ⟨_,_,hfree⟩:=ha
  refine (I.hok b ob e).stay (fun c w' hc q=>(hs.2 c ?_).trans q) (fun _ q=>q) fun _ _ q=>q
  rintro rfl
  rcases hc with rfl | hc
  ·rw[hfree] at e;cases e
  ·rw[hfree] at hc;cases hc
 rcases hx with hk | hk
 ·refine wpAny_storeName_local hk hn (fun h' hn' hs=>?_) hcls
  obtain ⟨oL,_,_,hoL,_⟩:=id hn
  refine h _ ⟨I.ok,I.os,I.bare,⟨fun b o e n hb hx=>?_,fun b o e n hb hx=>?_,I.base.free,fun b o e hx=>?_,I.base.tups,I.base.frzs,I.base.tbls⟩,⟨_,hn',fun j y v' e1 e2 e3=>?_⟩,fun y c e=>?_,I.free,I.freeC,fun p hp=>?_,tracked ⟨oL,hoL,I.free⟩ hs,by simpa using I.len⟩ ⟨_,hs,.inl rfl⟩
  ·exact (hs.2 b (yda (ydd (ydq e) I.ok.above))).trans (I.base.keep b o e n hb hx)
  ·obtain ⟨sl,e1⟩:=I.base.slot b o e n hb hx
   exact ⟨sl,(hs.2 b (yda (ydd (ydq e) I.ok.above))).trans e1⟩
  ·obtain ⟨o',e1⟩:=I.base.there b o e hx
   exact ⟨o',(hs.2 b (yda (ydd (ydq e) I.ok.above))).trans e1⟩
  ·by_cases hj:j=i
   ·subst hj
    rw[hi] at e1;cases e1
    rw[List.getElem?_set_self hiσ] at e2
    cases e2
    exact ⟨u,r,.inl ⟨hk,by simp⟩⟩
   ·rw[List.getElem?_set_ne (Ne.symm hj)] at e2
    obtain ⟨u',r',q⟩:=hl j y v' e1 e2 e3
    refine ⟨u',r',?_⟩
    rcases q with ⟨k,e⟩ | ⟨k,c,e,z⟩
    ·refine .inl ⟨k,?_⟩
     have:y≠x:=fun e=>hj (zoC hN e1 (e ▸ hi))
     simp[this,e]
    ·exact .inr ⟨k,c,e,z.sameBut hs (cne y c e)⟩
  ·obtain ⟨w',z⟩:=I.cell y c e
   exact ⟨w',z.sameBut hs (cne y c e)⟩
  ·obtain ⟨e,n,ne,nf,d⟩:=I.pin p hp
   exact ⟨(hs.2 p.1 ne).trans e,n,ne,nf,d⟩
 ·have hfn:X.fn x=true:=by
   rcases hf with z | z
   ·exact z
   ·rw[z] at hk;cases hk
  obtain ⟨c,hc⟩:=I.ok.has x (.inl hk)
  obtain ⟨w',z⟩:=I.cell x c hc
  refine wpAny_storeName_cell I.ok.kind hk hc z (fun h' hc' hs=>?_)
  obtain ⟨oc,hoc,hocd⟩:=id z
  refine h { s with heap:=h' } ⟨I.ok,I.os,I.bare,⟨fun b o e n hb hx=>?_,fun b o e n hb hx=>?_,I.base.free,fun b o e hx=>?_,I.base.tups,I.base.frzs,I.base.tbls⟩,⟨m,hn.sameBut hs (Ne.symm (cne x c hc)),fun j y v' e1 e2 e3=>?_⟩,fun y c' e=>?_,I.free,I.freeC,fun p hp=>?_,tracked ⟨oc,hoc,I.freeC x c hc⟩ hs,by simpa using I.len⟩ ⟨c,hs,.inr hc⟩
  ·exact (hs.2 b (yda (ydd (ydq e) (I.ok.cab x c hfn hc)))).trans (I.base.keep b o e n hb hx)
  ·obtain ⟨sl,e1⟩:=I.base.slot b o e n hb hx
   exact ⟨sl,(hs.2 b (yda (ydd (ydq e) (I.ok.cab x c hfn hc)))).trans e1⟩
  ·obtain ⟨o',e1⟩:=I.base.there b o e hx
   exact ⟨o',(hs.2 b (yda (ydd (ydq e) (I.ok.cab x c hfn hc)))).trans e1⟩
  ·by_cases hj:j=i
   ·subst hj
    rw[hi] at e1;cases e1
    rw[List.getElem?_set_self hiσ] at e2
    cases e2
    exact ⟨u,r,.inr ⟨.inl hk,c,hc,hc'⟩⟩
   ·rw[List.getElem?_set_ne (Ne.symm hj)] at e2
    obtain ⟨u',r',q⟩:=hl j y v' e1 e2 e3
    refine ⟨u',r',?_⟩
    rcases q with q | ⟨k,c',e,z'⟩
    ·exact .inl q
    ·refine .inr ⟨k,c',e,z'.sameBut hs ?_⟩
     rintro rfl
     exact hj (zoC hN e1 (I.ok.inj _ _ _ e hc ▸ hi))
  ·by_cases hcc:c'=c
   ·subst hcc;exact ⟨_,hc'⟩
   ·obtain ⟨w2,z2⟩:=I.cell y c' e
    exact ⟨w2,z2.sameBut hs hcc⟩
  ·obtain ⟨e,n,ne,nf,d⟩:=I.pin p hp
   refine ⟨(hs.2 p.1 ?_).trans e,n,ne,nf,d⟩
   intro q
   rw[q,hoc] at e
   have q':oc=p.2:=Option.some.inj e
   exact d w' (by rw[<-q'];exact hocd)
theorem zoU {M:Model} {A:Around} {E:Value->Shared->Prop} {i:Nat} {x:Str} {v:V} {u:Value} {Q:Unit->Shared->Prop} (I:Inv X pins σ H s) (hN:X.N.Nodup) (hi:X.N[i]?=some x) (hx:Loc X.env.scope x) (r:RelV v u)
  (h:∀ s',Inv X pins (σ.set i (some v)) H s'->Q () s') (hf:X.fn x=true\/X.env.scope.names.lookup x=some .local:=by first | exact .inl rfl | exact .inr rfl | assumption):wpAny M A (storeName X.env x u) Q E s :=
 ztJ I hN hi hx r (fun s' I' _=>h s' I') hf
theorem Inv.call' {s':Shared} {ch:List Addr} (I:Inv X pins σ H s) (ho:s'.os=s.os) (u:Un (frs X.stack) ch H H' s.heap s'.heap) (hok:HOk X.prog X.w H' s'.heap) (hg:AllBare s'.gens)
  (hch:∀ b∈ch,(b∈X.ex\/X.s₀.heap.objs.size<=b)/\b≠X.env.locals/\(∀ x c,X.env.cells.lookup x=some c->c≠b)/\∀ p∈X.pn++pins,p.1≠b):Inv X pins σ H' s':=by
 obtain ⟨h',g',d',t',o'⟩:=s'
 have e:o'=s.os:=ho
 subst e
 exact I.call (g':=g') (t':=t') (d':=d') u hok hg hch
end
noncomputable abbrev XK:=Value->Option Addr->Hp->Prop
noncomputable abbrev St:=List (Option V)
noncomputable abbrev VK:=V->Hp->Prop
noncomputable abbrev TE:=St->Hp->VK->Prop
noncomputable abbrev TT:=St->Hp->(Bool->Hp->Prop)->Prop
noncomputable abbrev TA:=St->Hp->(List V->Hp->Prop)->Prop
structure Ends where
 nx:St->Hp->Prop
 rt:VK
 bk:St->Hp->Prop:=fun _ _=>False
 ct:St->Hp->Prop:=fun _ _=>False
noncomputable abbrev TS:=Ends->St->Hp->Prop
def EP (X:Cx) (pins:List (Addr × Obj)) (σ:St) (Q:VK) (u:Value) (s':Shared):Prop:=∃ v H',Inv X pins σ H' s'/\RelV v u/\Q v H'
def TP (X:Cx) (pins:List (Addr × Obj)) (σ:St) (Q:Bool->Hp->Prop) (b:Bool) (s':Shared):Prop:=∃ H',Inv X pins σ H' s'/\Q b H'
def AP (X:Cx) (pins:List (Addr × Obj)) (σ:St) (Q:List V->Hp->Prop) (us:List Value) (s':Shared):Prop:=∃ vs H',Inv X pins σ H' s'/\Vals vs us/\Q vs H'
def SP (X:Cx) (pins:List (Addr × Obj)) (D:Ends) (f:Flow) (s':Shared):Prop :=
 match f with
 | .next=>∃ σ' H',Inv X pins σ' H' s'/\D.nx σ' H'
 | .brk=>∃ σ' H',Inv X pins σ' H' s'/\D.bk σ' H'
 | .cont=>∃ σ' H',Inv X pins σ' H' s'/\D.ct σ' H'
 | .ret u=>∃ v σ' H',Inv X pins σ' H' s'/\RelV v u/\D.rt v H'
def PE (X:Cx) (e:Expr) (t:TE):Prop :=
 ∀ (pins:List (Addr × Obj)) (s:Shared) (σ:St) (H:Hp) (Q:VK),Inv X pins σ H s->t σ H Q->wpAny (model X.prog X.w) X.A (eval e X.env) (EP X pins σ Q) X.xe s
def PT (X:Cx) (e:Expr) (t:TT):Prop :=
 ∀ (pins:List (Addr × Obj)) (s:Shared) (σ:St) (H:Hp) (Q:Bool->Hp->Prop),Inv X pins σ H s->t σ H Q->wpAny (model X.prog X.w) X.A (isTrue e X.env (eval e X.env)) (TP X pins σ Q) X.xe s
def PW (X:Cx) (e:Expr) (t:TT):Prop :=
 ∀ (whole:Sem Value) (pins:List (Addr × Obj)) (s:Shared) (σ:St) (H:Hp) (Q:Bool->Hp->Prop),Inv X pins σ H s->t σ H Q->wpAny (model X.prog X.w) X.A (isTrue e X.env whole) (TP X pins σ Q) X.xe s
theorem PW.pt {X:Cx} {e:Expr} {t:TT} (h:PW X e t):PT X e t:=h _
def PA (X:Cx) (es:List Expr) (t:TA):Prop :=
 ∀ (pos:Pos) (pins:List (Addr × Obj)) (s:Shared) (σ:St) (H:Hp) (Q:List V->Hp->Prop),Inv X pins σ H s->t σ H Q->wpAny (model X.prog X.w) X.A (spliced (backTo pos (starEach es X.env))) (AP X pins σ Q) X.xe s
def PS (X:Cx) (st:Stmt) (t:TS):Prop :=
 ∀ (pins:List (Addr × Obj)) (s:Shared) (σ:St) (H:Hp) (D:Ends),Inv X pins σ H s->t D σ H->wpAny (model X.prog X.w) X.A (exec st X.env) (SP X pins D) X.xe s
def PSs (X:Cx) (st:List Stmt) (t:TS):Prop :=
 ∀ (pins:List (Addr × Obj)) (s:Shared) (σ:St) (H:Hp) (D:Ends),Inv X pins σ H s->t D σ H->wpAny (model X.prog X.w) X.A (execs st X.env) (SP X pins D) X.xe s
theorem thn {α:Type} {t:Sem α} {Q Q':α->Shared->Prop} {M:Model} {A:Around} {E:Value->Shared->Prop} {s:Shared} (h:wpAny M A t Q E s) (hQ:∀ a s,Q a s->Q' a s):wpAny M A t Q' E s:=wpAny_mono h hQ fun _ _ x=>x
section
variable {X:Cx}
def zwR (i:Nat):TE:=fun σ H Q=>∃ v,σ[i]?=some (some v)/\Q v H
def tC (v:V):TE:=fun _ H Q=>Q v H
theorem zwO {i:Nat} {x:Str} {pos:Pos} (hN:X.N[i]?=some x) (hv:Vis X.env.scope x) (hd:(x == ("__debug__" : Str))=false:=by decide) (hcd:(x == ("__classdict__" : Str))=false:=by decide):PE X (.Name x pos) (zwR i):=by
 intro pins s σ H Q I h
 obtain ⟨v,e,h⟩:=h
 obtain ⟨m,hn,hl⟩:=I.loc
 obtain ⟨u,r,l⟩:=hl i x v hN e hv
 have fin:EP X pins σ Q u s:=⟨v,H,I,r,h⟩
 rcases l with ⟨hk,hm⟩ | ⟨hk,c,hc,hcell⟩
 ·exact wpAny_Name (wpAny_loadName_local I.ok.kind hk hn hm fin) hd
 ·rcases hk with hk | hk
  ·exact wpAny_Name (wpAny_loadName_cell I.ok.kind hk hc hcell fin) hd
  ·exact wpAny_Name (wpAny_loadName_free I.ok.kind hk hc hcell fin hcd) hd
theorem zb {i j pos}:PE X (.Constant (.int i) j pos) (tC (.int i)):=fun _ _ _ H _ I h=>wpAny_Constant_int ⟨.int i,H,I.tok _,⟨_,rfl⟩,h⟩
theorem zmv {b j pos}:PE X (.Constant (.bool b) j pos) (tC (.bl b)):=fun _ _ _ H _ I h=>Constant_bool ⟨.bl b,H,I,rfl,h⟩
theorem zy {x j pos}:PE X (.Constant (.str x) j pos) (tC (.str x)):=fun _ _ _ H _ I h=>Calls.Constant_str ⟨.str x,H,I.tok _,⟨_,rfl⟩,h⟩
def Gl (X:Cx) (x:Str):Prop:=X.env.kindOf x=some .globalImplicit
theorem zkR {E:Value->Shared->Prop} {pins:List (Addr × Obj)} {s:Shared} {σ:St} {H:Hp} {x:Str} {u:Value} {pos:Pos} {Q:Value->Shared->Prop} (I:Inv X pins σ H s) (hg:Gl X x) (hm:X.mg x=some u) (h:Q u s)
  (hd:(x == ("__debug__" : Str))=false:=by decide):wpAny (model X.prog X.w) X.A (eval (.Name x pos) X.env) Q E s :=
 Calls.Name_function_global I.ok.kind hg (Calls.loadGlobal_global (by rw[I.ok.glob];exact I.mod.glob.keeps I.bk) hm h) hd
theorem zjO {E:Value->Shared->Prop} {pins:List (Addr × Obj)} {s:Shared} {σ:St} {H:Hp} {x:Str} {u:Value} {pos:Pos} {Q:Value->Shared->Prop} (I:Inv X pins σ H s) (hg:Gl X x) (hm:X.mg x=none) (hv:bootBuiltins x=some u) (h:Q u s)
  (hn:x ≠ "__name__" := by decide) (hd:(x == ("__debug__" : Str))=false:=by decide):wpAny (model X.prog X.w) X.A (eval (.Name x pos) X.env) Q E s:=by
 obtain ⟨mb,h1,h2⟩:=I.mod.blt
 exact Calls.Name_function_global I.ok.kind hg (Calls.loadGlobal_builtin (by rw[I.ok.glob];exact I.mod.glob.keeps I.bk) hm (by rw[I.ok.blt];exact h1.keeps I.bk) ((h2 x hn).trans hv) h) hd
theorem zf9 {x:Str} {v:V} {u:Value} {pos:Pos} (hg:Gl X x) (hm:X.mg x=some u) (r:RelV v u) (hd:(x == ("__debug__" : Str))=false:=by decide):PE X (.Name x pos) (tC v) :=
 fun _ _ _ H _ I h=>zkR I hg hm ⟨v,H,I,r,h⟩ hd
theorem zrl {x:Str} {v:V} {u:Value} {pos:Pos} (hg:Gl X x) (hm:X.mg x=none) (hv:bootBuiltins x=some u) (r:RelV v u) (hn:x ≠ "__name__" := by decide) (hd:(x == ("__debug__" : Str))=false:=by decide):PE X (.Name x pos) (tC v) :=
 fun _ _ _ H _ I h=>zjO I hg hm hv ⟨v,H,I,r,h⟩ hn hd
variable {a b:Expr} {ta tb:TE} {pos:Pos}
def PC (X:Cx) (op:CmpOp) (a b:Expr) (t:TE):Prop :=
 ∀ (pins:List (Addr × Obj)) (s:Shared) (σ:St) (H:Hp) (Q:VK),Inv X pins σ H s->t σ H Q ->
  wpAny (model X.prog X.w) X.A (eval a X.env) (fun v s₁=>wpAny (model X.prog X.w) X.A (eval b X.env) (fun u s₂=>wpAny (model X.prog X.w) X.A (compareOp op v u) (EP X pins σ Q) X.xe s₂) X.xe s₁) X.xe s
def tB (t:TE):TT:=fun σ H Q=>t σ H fun x H1=>∃ c,x=.bl c/\Q c H1
theorem zgQ {e:Expr} {t:TE} (h:PE X e t) (he:∀ whole,isTrue e X.env whole=(do let v <-whole;standAt e.pos;holding [v] (truthy v)):=by intro _;rfl):PT X e (tB t):=by
 intro pins s σ H Q I hw
 refine isTrue_plain (thn (h pins s σ H _ I hw) fun v s1 ⟨x,H1,I1,r1,q1⟩=>?_) (he _)
 obtain ⟨d,rfl,q⟩:=q1
 cases r1
 exact wpAny_truthy_bool ⟨H1,I1,q⟩
variable {tA tB':TT} {rest:List Expr}
def zxY (t u:TT):TT:=fun σ H Q=>t σ H fun c H1=>if c=true then u σ H1 Q else Q false H1
def tOr (t u:TT):TT:=fun σ H Q=>t σ H fun c H1=>if c=true then Q true H1 else u σ H1 Q
def zyd (t:TT):TT:=fun σ H Q=>t σ H fun c H1=>Q (!c) H1
theorem zdv (ha:PT X a tA):PW X (.BoolOp .And [a] pos) tA:=by
 intro wh pins s σ H Q I h
 refine isTrue_and (thn (ha pins s σ H Q I h) fun c s1 e=>?_)
 cases c with
 | true=>exact isTrue_and_nil e
 | false=>exact e
theorem zxj (ha:PT X a tA):PW X (.BoolOp .Or [a] pos) tA:=by
 intro wh pins s σ H Q I h
 refine isTrue_or (thn (ha pins s σ H Q I h) fun c s1 e=>?_)
 cases c with
 | false=>exact isTrue_or_nil e
 | true=>exact e
theorem zee (ha:PT X a tA) (hb:PW X (.BoolOp .And (b::rest) pos) tB'):PW X (.BoolOp .And (a::b::rest) pos) (zxY tA tB'):=by
 intro wh pins s σ H Q I h
 refine isTrue_and (thn (ha pins s σ H _ I h) fun c s1 ⟨H1,I1,q1⟩=>?_)
 cases c with
 | true=>exact hb wh pins s1 σ H1 Q I1 q1
 | false=>exact ⟨H1,I1,q1⟩
theorem zvb (ha:PT X a tA) (hb:PW X (.BoolOp .Or (b::rest) pos) tB'):PW X (.BoolOp .Or (a::b::rest) pos) (tOr tA tB'):=by
 intro wh pins s σ H Q I h
 refine isTrue_or (thn (ha pins s σ H _ I h) fun c s1 ⟨H1,I1,q1⟩=>?_)
 cases c with
 | true=>exact ⟨H1,I1,q1⟩
 | false=>exact hb wh pins s1 σ H1 Q I1 q1
theorem zpF (ha:PT X a tA):PT X (.UnaryOp .Not a pos) (zyd tA):=by
 intro pins s σ H Q I h
 exact isTrue_not (ha pins s σ H (fun c H1=>Q (!c) H1) I h)
def zxN (ta tb:TE):TE:=fun σ H Q=>ta σ H fun x H1=>∃ c,x=.bl c/\if c=true then tb σ H1 Q else Q (.bl false) H1
def zx2 (ta tb:TE):TE:=fun σ H Q=>ta σ H fun x H1=>∃ c,x=.bl c/\if c=true then Q (.bl true) H1 else tb σ H1 Q
def zxp (ta:TE):TE:=fun σ H Q=>ta σ H fun x H1=>∃ c,x=.bl c/\Q (.bl (!c)) H1
theorem zis {op} {t:TE} (h:PE X a t):PE X (.BoolOp op [a] pos) t:=fun pins s σ H Q I hw=>BoolOp_one (h pins s σ H Q I hw)
theorem zl7 (ha:PE X a ta) (hb:PE X (.BoolOp .And (b::rest) pos) tb):PE X (.BoolOp .And (a::b::rest) pos) (zxN ta tb):=by
 intro pins s σ H Q I h
 refine BoolOp_and (thn (ha pins s σ H _ I h) fun v s1 ⟨x,H1,I1,r1,q1⟩=>?_)
 obtain ⟨c,rfl,q1⟩:=q1
 cases r1
 refine wpAny_truthy_bool ?_
 cases c with
 | true=>exact hb pins s1 σ H1 Q I1 q1
 | false=>exact ⟨.bl false,H1,I1,rfl,q1⟩
theorem zvp (ha:PE X a ta) (hb:PE X (.BoolOp .Or (b::rest) pos) tb):PE X (.BoolOp .Or (a::b::rest) pos) (zx2 ta tb):=by
 intro pins s σ H Q I h
 refine BoolOp_or (thn (ha pins s σ H _ I h) fun v s1 ⟨x,H1,I1,r1,q1⟩=>?_)
 obtain ⟨c,rfl,q1⟩:=q1
 cases r1
 refine wpAny_truthy_bool ?_
 cases c with
 | false=>exact hb pins s1 σ H1 Q I1 q1
 | true=>exact ⟨.bl true,H1,I1,rfl,q1⟩
theorem zwK (ha:PE X a ta):PE X (.UnaryOp .Not a pos) (zxp ta):=by
 intro pins s σ H Q I h
 refine UnaryOp_ (thn (ha pins s σ H _ I h) fun v s1 ⟨x,H1,I1,r1,q1⟩=>?_)
 obtain ⟨c,rfl,q1⟩:=q1
 cases r1
 exact not_of (wpAny_truthy_bool ⟨.bl (!c),H1,I1,rfl,q1⟩)
def tIf (t:TT) (ta tb:TE):TE:=fun σ H Q=>t σ H fun c H1=>if c=true then ta σ H1 Q else tb σ H1 Q
theorem zpO {c:Expr} (hc:PT X c tA) (ha:PE X a ta) (hb:PE X b tb):PE X (.IfExp c a b pos) (tIf tA ta tb):=by
 intro pins s σ H Q I h
 refine wpAny_IfExp (thn (hc pins s σ H _ I h) fun d s1 ⟨H1,I1,q1⟩=>?_)
 cases d with
 | true=>exact ha pins s1 σ H1 Q I1 q1
 | false=>exact hb pins s1 σ H1 Q I1 q1
end
def SqL (K:W.Frag) (H:Hp) (a:Addr) (xs:List V):Prop :=
 Rd H a (.lst xs) \/
  ∃ (o:Obj) (its:Array Value) (n:Nat),K.lookup a=some o/\o.cls=.type "list" /\ o.dict=none/\o.data=.seq its n/\its.size<=sizeLine/\Vals xs its.toList
def SqT (K:W.Frag) (H:Hp) (a:Addr) (xs:List V):Prop :=
 Rd H a (.tup xs) \/
  ∃ (o:Obj) (its:Array Value) (n:Nat),K.lookup a=some o/\o.cls=.type "tuple" /\ o.data=.seq its n/\its.size<=sizeLine/\Vals xs its.toList
noncomputable def zxX:Value->Option V
 | .none=>some .non
 | .bool b=>some (.bl b)
 | .int i _=>some (.int i)
 | .str x _=>some (.str x)
 | .bytes b _=>some (.byt b)
 | .float b _=>some (.flt b)
 | .ref a=>some (.ref a)
 | .type n=>some (.ty n)
 | _=>none
theorem RelV.abs {x:V} {u:Value} (r:RelV x u):zxX u=some x:=by
 cases x with
 | non=>cases r;rfl
 | bl _=>cases r;rfl
 | int _=>obtain ⟨t,rfl⟩:=r;rfl
 | str _=>obtain ⟨t,rfl⟩:=r;rfl
 | byt _=>obtain ⟨t,rfl⟩:=r;rfl
 | flt _=>obtain ⟨t,rfl⟩:=r;rfl
 | ref _=>cases r;rfl
 | ty _=>cases r;rfl
theorem RelV.inj {x y:V} {u:Value} (r:RelV x u) (q:RelV y u):x=y:=Option.some.inj (r.abs.symm.trans q.abs)
theorem Vals.inj:∀ {xs ys:List V} {us:List Value},Vals xs us->Vals ys us->xs=ys
 | _,_,_,.nil,.nil=>rfl
 | _,_,_,.cons r t,.cons r' t'=>by rw[r.inj r',Vals.inj t t']
section
variable {X:Cx} {pins:List (Addr × Obj)} {σ:St} {H:Hp} {s:Shared} {a:Addr} {xs ys:List V}
theorem SqL.of {K:W.Frag} (h:H a=some (.lst xs)):SqL K H a xs:=.inl (.inl h)
theorem SqT.of {K:W.Frag} (h:H a=some (.tup xs)):SqT K H a xs:=.inl (.inl h)
theorem Inv.list (I:Inv X pins σ H s) (h:SqL X.K H a xs):∃ its:List Value,Vals xs its/\PlainL s.heap a its.toArray/\xs.length<=sizeLine:=by
 rcases h with h | ⟨o,its,n,hk,hc,hd,hs,hz,r⟩
 ·obtain ⟨z,its,n,r,e⟩:=h.ok I.hok
  exact ⟨its,r,⟨_,n,e,rfl,rfl,rfl⟩,z⟩
 ·refine ⟨its.toList,r,⟨o,n,I.kIn a o hk,hc,hd,by simpa using hs⟩,?_⟩
  have e:=r.length
  simp only[yec] at e
  ac_rfl
theorem Inv.tuple (I:Inv X pins σ H s) (h:SqT X.K H a xs):∃ its:List Value,Vals xs its/\IsTup s.heap a its.toArray/\xs.length<=sizeLine:=by
 rcases h with h | ⟨o,its,n,hk,hc,hs,hz,r⟩
 ·obtain ⟨z,its,r,p⟩:=h.ok I.hok
  exact ⟨its,r,p,z⟩
 ·refine ⟨its.toList,r,⟨o,I.kIn a o hk,hc,n,by simpa using hs⟩,?_⟩
  have e:=r.length
  simp only[yec] at e
  ac_rfl
theorem Inv.zuv (I:Inv X pins σ H s) (h:SqL X.K H a xs) (h':SqL X.K H a ys):xs=ys:=by
 obtain ⟨its,r,⟨o,n,e,_,_,d⟩,_⟩:=I.list h
 obtain ⟨its',r',⟨o',n',e',_,_,d'⟩,_⟩:=I.list h'
 rw[e] at e';cases e'
 rw[d] at d'
 injection d' with d1 _
 have:its=its':=by simpa using congrArg Array.toList d1
 subst this
 exact r.inj r'
end
noncomputable abbrev Cx.wish (X:Cx) (E:Value->Shared->Prop):Cx:={ X with xe:=E }
noncomputable abbrev Cx.nox (X:Cx):Cx:=X.wish fun _ _=>False
theorem Cx.Ok.wish {X:Cx} (ok:X.Ok) (E:Value->Shared->Prop):(X.wish E).Ok :=
 ⟨ok.mod,ok.kind,ok.glob,ok.blt,ok.above,ok.inj,ok.has,ok.cab,ok.hd,ok.frames,ok.stk,ok.exf,ok.bs,ok.bsz,ok.noex,ok.exfs,ok.funs,ok.frf⟩
theorem Cx.Ok.unwish {X:Cx} {E:Value->Shared->Prop} (ok:(X.wish E).Ok):X.Ok :=
 ⟨ok.mod,ok.kind,ok.glob,ok.blt,ok.above,ok.inj,ok.has,ok.cab,ok.hd,ok.frames,ok.stk,ok.exf,ok.bs,ok.bsz,ok.noex,ok.exfs,ok.funs,ok.frf⟩
section
variable {X:Cx} {pins:List (Addr × Obj)} {σ:St} {H:Hp} {s:Shared} {E:Value->Shared->Prop}
theorem Inv.wish (I:Inv X pins σ H s) (E:Value->Shared->Prop):Inv (X.wish E) pins σ H s:=⟨I.ok.wish E,I.os,I.bare,I.base,I.loc,I.cell,I.free,I.freeC,I.pin,I.hok,I.len⟩
theorem Inv.unwish (I:Inv (X.wish E) pins σ H s):Inv X pins σ H s:=⟨I.ok.unwish,I.os,I.bare,I.base,I.loc,I.cell,I.free,I.freeC,I.pin,I.hok,I.len⟩
theorem SP.unwish {D:Ends} {f:Flow} {s':Shared} (h:SP (X.wish E) pins D f s'):SP X pins D f s':=by
 cases f with
 | next=>obtain ⟨σ',H',I,q⟩:=h;exact ⟨σ',H',I.unwish,q⟩
 | brk=>obtain ⟨σ',H',I,q⟩:=h;exact ⟨σ',H',I.unwish,q⟩
 | cont=>obtain ⟨σ',H',I,q⟩:=h;exact ⟨σ',H',I.unwish,q⟩
 | ret u=>obtain ⟨v,σ',H',I,r,q⟩:=h;exact ⟨v,σ',H',I.unwish,r,q⟩
theorem PSs.nox {st:List Stmt} {t:TS} (h:PSs X.nox st t):PSs X st t:=fun pins s σ H D I hw =>
 wpAny_mono (h pins s σ H D (I.wish _) hw) (fun _ _ q=>q.unwish) fun _ _ z=>False.elim z
end
section
variable {X:Cx} {st:Stmt} {rest:List Stmt} {t u:TS} {e:Expr} {te:TE} {pos:Pos}
def zxr:TS:=fun D σ H=>D.nx σ H
def zad (t u:TS):TS:=fun D σ H=>t { D with nx:=u D } σ H
theorem zS:PSs X [] zxr:=fun _ _ σ H _ I h=>wpAny_execs_nil ⟨σ,H,I,h⟩
theorem zuz (h1:PS X st t) (h2:PSs X rest u):PSs X (st::rest) (zad t u):=by
 intro pins s σ H D I h
 refine wpAny_execs_cons (thn (h1 pins s σ H { D with nx:=u D } I h) fun f s1 q=>?_)
 cases f with
 | next =>
  obtain ⟨σ',H',I',q⟩:=q
  exact h2 pins s1 σ' H' D I' q
 | ret v=>exact q
 | brk=>exact q
 | cont=>exact q
theorem zf (h1:PS X st t):PSs X [st] t:=by
 intro pins s σ H D I h
 refine wpAny_execs_cons (thn (h1 pins s σ H D I h) fun f s1 q=>?_)
 cases f with
 | next=>exact wpAny_execs_nil q
 | ret v=>exact q
 | brk=>exact q
 | cont=>exact q
theorem Inv.quiet {pins:List (Addr × Obj)} {σ:St} {H:Hp} {s:Shared} (I:Inv X pins σ H s):interactive X.env=false:=by simp[interactive,I.ok.kind]
def zxG (te:TE):TS:=fun D σ H=>te σ H fun _ H1=>D.nx σ H1
theorem zam (he:PE X e te) (hs:swapsWith e none pos.line X.env=pure false:=by rfl):PS X (.Expr e pos) (zxG te):=by
 intro pins s σ H D I h
 exact wpAny_Expr_any (thn (he pins s σ H _ I h) fun v s1 ⟨x,H1,I1,r1,q1⟩=>⟨σ,H1,I1,q1⟩) I.quiet hs
def zyo (te:TE):TS:=fun D σ H=>te σ H D.rt
theorem zo (he:PE X e te):PS X (.Return (some e) pos) (zyo te):=by
 intro pins s σ H D I h
 exact wpAny_Return_some (thn (he pins s σ H _ I h) fun v s1 ⟨x,H1,I1,r1,q1⟩=>⟨x,σ,H1,I1,r1,q1⟩)
def zyj (c:TT) (t u:TS):TS:=fun D σ H=>c σ H fun b H1=>if b=true then t D σ H1 else u D σ H1
theorem zae {c:Expr} {a b:List Stmt} {tc:TT} (hc:PT X c tc) (ha:PSs X a t) (hb:PSs X b u):PS X (.If c a b pos) (zyj tc t u):=by
 intro pins s σ H D I h
 refine wpAny_If (thn (hc pins s σ H _ I h) fun d s1 ⟨H1,I1,q1⟩=>?_)
 cases d with
 | true=>exact ha pins s1 σ H1 D I1 q1
 | false=>exact hb pins s1 σ H1 D I1 q1
def zxe:TS:=fun _ _ _=>False
theorem zj8 {sts:List Stmt}:PSs X sts zxe:=fun _ _ _ _ _ _ h=>h.elim
end
noncomputable abbrev TG:=V->St->Hp->(St->Hp->Prop)->Prop
noncomputable abbrev TGs:=List V->St->Hp->(St->Hp->Prop)->Prop
def PG (X:Cx) (target:Expr) (t:TG):Prop :=
 ∀ (pins:List (Addr × Obj)) (s:Shared) (σ:St) (H:Hp) (v:V) (u:Value) (Q:St->Hp->Prop),Inv X pins σ H s->RelV v u->t v σ H Q ->
  wpAny (model X.prog X.w) X.A (assign target X.env u) (fun _ s'=>∃ σ' H',Inv X pins σ' H' s'/\Q σ' H') X.xe s
def PGs (X:Cx) (ts:List Expr) (t:TGs):Prop :=
 ∀ (pins:List (Addr × Obj)) (s:Shared) (σ:St) (H:Hp) (vs:List V) (us:List Value) (Q:St->Hp->Prop),Inv X pins σ H s->Vals vs us->t vs σ H Q ->
  wpAny (model X.prog X.w) X.A (assignInOrder ((assignEach ts X.env).map (·.2)) us) (fun _ s'=>∃ σ' H',Inv X pins σ' H' s'/\Q σ' H') X.xe s
noncomputable abbrev TSet:=V->V->V->Hp->(Hp->Prop)->Prop
def PSet (X:Cx) (t:TSet):Prop :=
 ∀ (pins:List (Addr × Obj)) (s:Shared) (σ:St) (H:Hp) (o i v:V) (ov iv u:Value) (Q:Hp->Prop),Inv X pins σ H s->RelV o ov->RelV i iv->RelV v u->t o i v H Q ->
  wpAny (model X.prog X.w) X.A (setItem ov iv u) (fun _ s'=>∃ H',Inv X pins σ H' s'/\Q H') X.xe s
section
variable {X:Cx} {pos:Pos}
def zb9 (i:Nat):TG:=fun v σ H Q=>Q (σ.set i (some v)) H
theorem zC {i:Nat} {x:Str} (hN:X.N.Nodup) (hi:X.N[i]?=some x) (hx:Loc X.env.scope x) (hf:X.fn x=true\/X.env.scope.names.lookup x=some .local:=by first | exact .inl rfl | exact .inr rfl | assumption):PG X (.Name x pos) (zb9 i):=by
 intro pins s σ H v u Q I r h
 exact wpAny_assign_Name (zoU I hN hi hx r (fun s' I'=>⟨_,H,I',h⟩) hf)
noncomputable def zub:TGs:=fun vs σ H Q=>vs=[]/\Q σ H
noncomputable def zkA (t:TG) (u:TGs):TGs:=fun vs σ H Q=>∃ v r,vs=v::r/\t v σ H fun σ' H'=>u r σ' H' Q
theorem zbz:PGs X [] zub:=by
 intro pins s σ H vs us Q I r h
 obtain ⟨e,h⟩:=h
 subst e
 cases r
 exact assignInOrder_nil ⟨σ,H,I,h⟩
theorem zH {e:Expr} {es:List Expr} {t:TG} {u:TGs} (h1:PG X e t) (h2:PGs X es u)
  (hs:(assignEach (e::es) X.env).map (·.2)=assign e X.env::(assignEach es X.env).map (·.2):=by rfl):PGs X (e::es) (zkA t u):=by
 intro pins s σ H vs us Q I r h
 obtain ⟨v,vr,e1,h⟩:=h
 subst e1
 cases r with
 | cons r rr =>
  rw[hs]
  refine assignInOrder_cons (thn (h1 pins s σ H _ _ _ I r h) fun _ s1 ⟨σ1,H1,I1,q1⟩=>?_)
  exact h2 pins s1 σ1 H1 _ _ Q I1 rr q1
def zu4 (K:W.Frag) (n:Nat) (t:TGs):TG:=fun v σ H Q=>∃ a xs,v=.ref a/\SqT K H a xs/\xs.length=n/\t xs σ H Q
theorem zch {es:List Expr} {k:Nat} {t:TGs} {n:Nat} (hc:X.calm=true) (h:PGs X es t)
  (hn:(assignEach es X.env).length=n:=by rfl) (hst:(assignEach es X.env).findIdx? (·.1)=none:=by rfl):PG X (.Tuple es k pos) (zu4 X.K n t):=by
 intro pins s σ H v u Q I r hw
 obtain ⟨a,xs,e1,hq,hl,hw⟩:=hw
 subst e1
 cases r
 obtain ⟨its,rv,ht,hz⟩:=I.tuple hq
 refine assign_Tuple_tuple (I.ok.hd hc) ht (by simp[hn,<-hl,rv.length]) hst fun h' hx=>?_
 have I1:Inv X pins σ H { s with heap:=h' }:=I.kept (t':=s.toks) fun b o e=>hx b o (yda (ydq e)) e
 exact h pins _ σ H xs _ Q I1 (by simpa using rv) hw
def zym (to ti:TE) (t:TSet):TG:=fun v σ H Q=>to σ H fun o H1=>ti σ H1 fun i H2=>t o i v H2 fun H3=>Q σ H3
theorem zxg {o i:Expr} {to ti:TE} {t:TSet} (ho:PE X o to) (hi:PE X i ti) (hs:PSet X t)
  (ha:∀ v,assign (.Subscript o i pos) X.env v=(do
   let ov <-holding [v] (eval o X.env)
   let iv <-holding [v,ov] (eval i X.env)
   standAt pos
   holding [v,ov,iv] (setItem ov iv v)
   release [v,ov,iv] []):=by intro _;rfl):PG X (.Subscript o i pos) (zym to ti t):=by
 intro pins s σ H v u Q I r h
 rw[ha]
 refine wpAny_bind (wpAny_holding (thn (ho pins s σ H _ I h) fun ov s1 ⟨x,H1,I1,r1,q1⟩=>?_))
 refine wpAny_bind (wpAny_holding (thn (hi pins s1 σ H1 _ I1 q1) fun iv s2 ⟨y,H2,I2,r2,q2⟩=>?_))
 refine wpAny_bind (wpAny_standAt (wpAny_bind (wpAny_holding (thn (hs pins s2 σ H2 x y v ov iv u _ I2 r1 r2 r q2) fun _ s3 ⟨H3,I3,q3⟩=>?_))))
 exact wpAny_release ⟨σ,H3,I3,q3⟩
def zo8 (te:TE) (g:TG):TS:=fun D σ H=>te σ H fun x H1=>g x σ H1 D.nx
theorem zfl {tg e:Expr} {te:TE} {g:TG} (he:PE X e te) (hg:PG X tg g) (hs:swapsWithSole [tg] e pos.line X.env=pure false:=by rfl) (hw:swappedStores [tg] e X.env=pure none:=by rfl)
  (h1:(assignEach [tg] X.env).map (·.2)=[assign tg X.env]:=by rfl):PS X (.Assign [tg] e pos) (zo8 te g):=by
 intro pins s σ H D I h
 refine wpAny_Assign_stores (thn (he pins s σ H _ I h) fun v s1 ⟨x,H1,I1,r1,q1⟩=>?_) hs hw
 rw[h1]
 exact thn (hg pins s1 σ H1 x v _ I1 r1 q1) fun _ s2 q=>q
theorem zk {i:Nat} {x:Str} {e:Expr} {te:TE} {pos':Pos} (hN:X.N.Nodup) (hi:X.N[i]?=some x) (hx:Loc X.env.scope x) (he:PE X e te) (hs:swapsWith e (some (.Name x pos')) pos.line X.env=pure false:=by rfl) (hf:X.fn x=true\/X.env.scope.names.lookup x=some .local:=by first | exact .inl rfl | exact .inr rfl | assumption) :
  PS X (.Assign [.Name x pos'] e pos) (zo8 te (zb9 i)):=by
 intro pins s σ H D I h
 refine wpAny_Assign_Name (thn (he pins s σ H _ I h) fun v s1 ⟨y,H1,I1,r1,q1⟩=>?_) hs
 exact zoU I1 hN hi hx r1 (fun s2 I2=>⟨_,H1,I2,q1⟩) hf
end
section
variable {X:Cx} {pos:Pos}
def zxd (c:TT) (tb:TS):TS:=fun D σ H=>∃ W:Nat->St->Hp->Prop,(∃ m,W m σ H)/\∀ m σ H,W m σ H ->
 c σ H fun b H1=>if b=true then ∃ N:St->Hp->Prop,(∀ σ' H',N σ' H'->∃ m',m'<m/\W m' σ' H')/\tb { D with nx:=N,ct:=N,bk:=D.nx } σ H1 else D.nx σ H1
theorem zdp {c:Expr} {body:List Stmt} {tc:TT} {tb:TS} (hp:PassesOwn (model X.prog X.w) X.A X.env X.xe) (hc:PT X c tc) (hb:PSs X body tb):PS X (.While c body [] pos) (zxd tc tb):=by
 intro pins s σ H D I h
 obtain ⟨W,⟨m0,w0⟩,turn⟩:=h
 refine wpAny_While (codeAny_whileLoop (fun n s'=>∃ σ' H',Inv X pins σ' H' s'/\W n σ' H') ?_ m0 ⟨σ,H,I,w0⟩)
 rintro n s1 ⟨σ1,H1,I1,w1⟩
 refine wpAny_passesOwn hp (thn (hc pins s1 σ1 H1 _ I1 (turn n σ1 H1 w1)) fun b s2 ⟨H2,I2,q2⟩=>?_)
 cases b with
 | true =>
  obtain ⟨N,hN,q2⟩:=q2
  rw[if_pos rfl]
  refine wpAny_passesOwn hp (thn (hb pins s2 σ1 H2 _ I2 q2) fun f s3 q3=>?_)
  cases f with
  | next =>
   obtain ⟨σ3,H3,I3,n3⟩:=q3
   obtain ⟨m',hm,w3⟩:=hN σ3 H3 n3
   exact ⟨m',hm,σ3,H3,I3,w3⟩
  | cont =>
   obtain ⟨σ3,H3,I3,n3⟩:=q3
   obtain ⟨m',hm,w3⟩:=hN σ3 H3 n3
   exact ⟨m',hm,σ3,H3,I3,w3⟩
  | brk=>exact q3
  | ret v=>exact q3
 | false =>
  rw[if_neg Bool.false_ne_true]
  exact wpAny_execs_nil ⟨σ1,H2,I2,q2⟩
end
structure It where
 go:Nat->Hp->Prop
 yld:Nat->Hp->V->Hp->Prop
 stop:Nat->Hp->Prop
def zaL (X:Cx) (pins:List (Addr × Obj)) (H:Hp) (b:Addr):Prop :=
 H b=none/\b≠X.env.locals/\b ∉ X.fs/\(b∈X.ex\/X.s₀.heap.objs.size<=b)/\(∀ x c,X.env.cells.lookup x=some c->c≠b)/\∀ p∈X.pn++pins,p.1≠b
theorem Inv.zm1 {X:Cx} {pins:List (Addr × Obj)} {σ:St} {H H':Hp} {s:Shared} {b:Addr} (I:Inv X pins σ H s) (hb:s.heap.objs.size<=b) (hn:H' b=none):zaL X pins H' b:=by
 refine ⟨hn,ydk (ydd I.lt hb),I.nofs hb,.inr (yde I.sz hb),fun x c e z=>?_,fun p hp z=>?_⟩
 ·obtain ⟨v,q⟩:=I.cell x c e
  exact absurd (ydd q.lt (by rw[z];exact hb)) (ydf _)
 ·exact absurd (ydd (ydq (I.pin p hp).1) (by rw[z];exact hb)) (ydf _)
structure Turn (P:Program) (w:World) (K:W.Frag) (tg:Expr) (J:It) (fp:List Addr) (it:Addr) (tn:Nat->Heap->Prop):Prop where
 mem:it∈fp
 obj:∀ i h,tn i h->∀ b∈fp,∃ o,h.get? b=some o/\∀ v,o.data≠.cell v
 keep:∀ i h h',tn i h->(∀ b∈fp,∀ o,h.get? b=some o->h'.get? b=some o)->tn i h'
 item:∀ (X:Cx),X.prog=P->X.w=w->X.K=K->X.calm=true->∀ (i:Nat) (pins:List (Addr × Obj)) (s:Shared) (σ:St) (H:Hp) (E:Value->Shared->Prop),Inv X pins σ H s->(∀ b∈fp,zaL X pins H b)->tn i s.heap->J.go i H ->
  wpAny (model P w) X.A (pyNext (.ref it)) (fun r s1=>∃ u,r=some u /\
   wpAny (model P w) X.A (letOwnedTupleGo tg (.ref it) u) (fun _ s2=>∃ x H',Inv X pins σ H' s2/\RelV x u/\J.yld i H x H'/\tn (i+1) s2.heap/\∀ b∈fp,H' b=none) E s1) E s
 done:∀ (X:Cx),X.prog=P->X.w=w->X.K=K->X.calm=true->∀ (i:Nat) (pins:List (Addr × Obj)) (s:Shared) (σ:St) (H:Hp) (E:Value->Shared->Prop),Inv X pins σ H s->(∀ b∈fp,zaL X pins H b)->tn i s.heap->J.stop i H ->
  wpAny (model P w) X.A (pyNext (.ref it)) (fun r s1=>r=none/\Inv X pins σ H s1) E s
 self:∀ (A:Around) (i:Nat) (s:Shared) (Q:Value->Shared->Prop) (E:Value->Shared->Prop),tn i s.heap->Q (.ref it) s->wpAny (model P w) A (pyIter (.ref it)) Q E s
noncomputable abbrev TI:=St->Hp->(It->Hp->Prop)->Prop
def PIE (X:Cx) (pins:List (Addr × Obj)) (σ:St) (tg:Expr) (R:It->Hp->Prop) (itv:Value) (s2:Shared):Prop :=
 ∃ (it:Addr) (fp:List Addr) (tn:Nat->Heap->Prop) (J:It) (H':Hp),itv=.ref it/\Inv X pins σ H' s2/\Turn X.prog X.w X.K tg J fp it tn/\tn 0 s2.heap/\(∀ b∈fp,zaL X pins H' b)/\R J H'
def PI (X:Cx) (tg iter:Expr) (wi:TI):Prop :=
 ∀ (pins:List (Addr × Obj)) (s:Shared) (σ:St) (H:Hp) (R:It->Hp->Prop),Inv X pins σ H s->wi σ H R ->
  wpAny (model X.prog X.w) X.A (eval iter X.env) (fun v s1=>wpAny (model X.prog X.w) X.A (pyIter v) (PIE X pins σ tg R) X.xe s1) X.xe s
theorem zvi {M:Model} {A:Around} {E:Value->Shared->Prop} {s:Shared} {tg:Expr} {it:Addr} {u:Value} {o:Obj} {n:String} {vs:Array Value} {Q:Unit->Shared->Prop} (ho:s.heap.get? it=some o) (hc:o.cls=.type n) (hd:o.data=.fields vs)
  (hn:["enumerate", "zip", "dict_itemiterator", "dict_reverseitemiterator", "odict_iterator", "itertools.zip_longest", "itertools.pairwise"].contains n=false) (hQ:Q () s):wpAny M A (letOwnedTupleGo tg (.ref it) u) Q E s:=by
 unfold letOwnedTupleGo
 cases tg <;> first
  | exact wpAny_pure hQ
  | (cases u <;> first
    | exact wpAny_pure hQ
    | (refine wpAny_bind (wpAny_load ho ?_)
       rw[hc,hd]
       show wpAny M A (if (["enumerate", "zip", "dict_itemiterator", "dict_reverseitemiterator", "odict_iterator", "itertools.zip_longest", "itertools.pairwise"].contains n && vs[0]? == some (rawInt _))=true then _ else _) Q E s
       rw[if_neg (by intro h;rw[hn,Bool.false_and] at h;cases h)]
       exact wpAny_pure hQ))
noncomputable def Itl (K:W.Frag) (a:Addr):It :=
 ⟨fun i H=>∃ xs x,SqL K H a xs/\xs[i]?=some x,fun i H x H'=>H'=H/\∀ xs,SqL K H a xs->xs[i]?=some x,fun i H=>∃ xs,SqL K H a xs/\xs.length<=i⟩
noncomputable def Itr (lo:Int) (n:Nat):It:=⟨fun i _=>i<n,fun i H x H'=>H'=H/\x=.int (lo+i),fun i _=>n<=i⟩
theorem ztA {P:Program} {w:World} {K:W.Frag} {tg:Expr} (a it:Addr):Turn P w K tg (Itl K a) [it] it (fun i h=>h.IsListIter it a i) where
 mem:=by simp
 obj:=fun i h st b hb=>by
  have e:b=it:=by simpa using hb
  subst e
  obtain ⟨o,e,c,d⟩:=st
  exact ⟨o,e,fun v z=>by rw[d] at z;cases z⟩
 keep:=fun i h h' st k=>st.at fun o e=>k it (by simp) o e
 item:=by
  intro X hP hw hK hc i pins s σ H E I hf st hg
  subst hP hw hK
  obtain ⟨xs,x,hq,hx⟩:=hg
  obtain ⟨its,rv,p,hz⟩:=I.list hq
  obtain ⟨u,hu,ru⟩:=rv.get hx
  obtain ⟨f0,f1,f2,f3,f4,f5⟩:=hf it (by simp)
  refine wpAny_pyNext_list_item st p.isList (x:=u) (by simpa using hu) fun h' st' sb=>?_
  have I1:Inv X pins σ H { s with heap:=h' }:=I.turned (t':=s.toks) (fun b o hb e=>(sb.2 b hb).trans e) f0 f1 f3 f4 f5
  obtain ⟨o,e,c,d⟩:=id st'
  exact ⟨u,rfl,zvi (s:={ s with heap:=h' }) e c d (by decide) ⟨x,H,I1,ru,⟨rfl,fun ys hy=>by rw[I.zuv hy hq];exact hx⟩,st',fun b hb=>(hf b hb).1⟩⟩
 done:=by
  intro X hP hw hK hc i pins s σ H E I hf st hg
  subst hP hw hK
  obtain ⟨xs,hq,hx⟩:=hg
  obtain ⟨its,rv,p,hz⟩:=I.list hq
  obtain ⟨f0,f1,f2,f3,f4,f5⟩:=hf it (by simp)
  have hl:=rv.length
  exact wpAny_pyNext_list_end (I.ok.hd hc) st p.isList (by simp;ac_rfl) fun h' eb=>⟨rfl,I.turned (t':=s.toks) (fun b o hb e=>eb b o hb e) f0 f1 f3 f4 f5⟩
 self:=fun _ _ _ _ _ st h=>wpAny_pyIter_listiter st h
theorem zsk {P:Program} {w:World} {K:W.Frag} {tg:Expr} (it:Addr) (lo:Int) (n:Nat):Turn P w K tg (Itr lo n) [it] it (fun i h=>IsRangeIter h it (lo+(i:Nat)*1) ((n:Int)-(i:Nat)) 1) where
 mem:=by simp
 obj:=fun i h st b hb=>by
  have e:b=it:=by simpa using hb
  subst e
  exact ⟨_,st,fun v z=>by
   have z':Data.fields _=Data.cell v:=z
   cases z'⟩
 keep:=fun i h h' st k=>k it (by simp) _ st
 item:=by
  intro X hP hw hK hc i pins s σ H E I hf st hg
  subst hP hw hK
  obtain ⟨f0,f1,f2,f3,f4,f5⟩:=hf it (by simp)
  have W:=Walks.range (prog:=X.prog) (w:=X.w) (I.ok.hd hc) it lo 1 n
  refine W.item i s _ _ hg st fun v h' tk hv st' kk=>?_
  obtain ⟨t,rfl⟩:=hv
  have I1:Inv X pins σ H { s with heap:=h',toks:=tk }:=I.turned (fun b o hb e=>kk b o (by simpa using hb) e) f0 f1 f3 f4 f5
  refine ⟨_,rfl,zvi (s:={ s with heap:=h',toks:=tk }) (n:="range_iterator") st' rfl rfl (by decide) ⟨.int (lo+i),H,I1,⟨t,?_⟩,⟨rfl,rfl⟩,st',fun b hb=>(hf b hb).1⟩⟩
  rw[Int.mul_one]
 done:=by
  intro X hP hw hK hc i pins s σ H E I hf st hg
  subst hP hw hK
  obtain ⟨f0,f1,f2,f3,f4,f5⟩:=hf it (by simp)
  exact wpAny_pyNext_range_end (I.ok.hd hc) st (by have:n<=i:=hg;ac_rfl) fun h' eb=>⟨rfl,I.turned (t':=s.toks) (fun b o hb e=>eb b o hb e) f0 f1 f3 f4 f5⟩
 self:=fun _ _ _ _ _ st h=>wpAny_pyIter_rangeiter st h
section
variable {X:Cx} {tg:Expr}
def zxL (K:W.Frag) (tl:TE):TI:=fun σ H R=>tl σ H fun x H1=>∃ a,x=.ref a/\(∃ xs,SqL K H1 a xs)/\R (Itl K a) H1
theorem zG {l:Expr} {tl:TE} (hl:PE X l tl):PI X tg l (zxL X.K tl):=by
 intro pins s σ H R I h
 refine thn (hl pins s σ H _ I h) fun v s1 ⟨x,H1,I1,r1,q1⟩=>?_
 obtain ⟨a,e,⟨xs,hq⟩,q⟩:=q1
 subst e
 cases r1
 obtain ⟨its,rv,p,hz⟩:=I1.list hq
 refine wpAny_pyIter_list p.isList ?_
 refine ⟨s1.heap.objs.size,[s1.heap.objs.size],_,_,H1,rfl,I1.kept (t':=s1.toks) fun b o e=>ydp _ e,ztA a _,⟨_,ydr _ rfl,rfl,rfl⟩,fun b hb=>?_,q⟩
 have e:b=s1.heap.objs.size:=by simpa using hb
 subst e
 exact I1.zm1 (ycz _) (I1.hok.fresh (ycz _))
theorem zpj {pins:List (Addr × Obj)} {σ:St} {H:Hp} {s:Shared} {R:It->Hp->Prop} {E:Value->Shared->Prop} {lo hi:Int} {t u v:Tok} {tk:Nat} (I:Inv X pins σ H s) (h1:-(2 ^ 62)<=lo) (h2:lo<2 ^ 62) (h3:-(2 ^ 62)<=hi) (h4:hi<2 ^ 62)
  (q:R (Itr lo (hi-lo).toNat) H):wpAny (model X.prog X.w) X.A (pyIter (.ref s.heap.objs.size)) (PIE X pins σ tg R) E { s with heap:=s.heap.push { cls:=.type "range", data:=.fields #[.int lo t,.int hi u,.int 1 v] },toks:=tk }:=by
 refine wpAny_pyIter_range (IsRange.new ..) (small_one h1 h2 h3 h4) ?_
 have I1:Inv X pins σ H { s with heap:=s.heap.push { cls:=.type "range", data:=.fields #[.int lo t,.int hi u,.int 1 v] },toks:=tk }:=I.kept fun b o e=>ydp _ e
 refine ⟨(s.heap.push { cls:=.type "range", data:=.fields #[.int lo t,.int hi u,.int 1 v] }).objs.size,[(s.heap.push { cls:=.type "range", data:=.fields #[.int lo t,.int hi u,.int 1 v] }).objs.size],_,_,H,rfl,
  I1.kept (t':=tk) fun b o e=>ydp _ e,zsk _ lo (hi-lo).toNat,?_,fun b hb=>?_,q⟩
 ·have e1:lo+((0:Nat):Int)*1=lo:=by simp
  have e2:(((hi-lo).toNat:Nat):Int)-((0:Nat):Int)=Builtin.Range.rangeSize lo hi 1:=by rw[rangeSize_one];split <;> ac_rfl
  show IsRangeIter _ _ (lo+((0:Nat):Int)*1) ((((hi-lo).toNat:Nat):Int)-((0:Nat):Int)) 1
  rw[e1,e2]
  exact ydr _ rfl
 ·have e:b=(s.heap.push { cls:=.type "range", data:=.fields #[.int lo t,.int hi u,.int 1 v] }).objs.size:=by simpa using hb
  subst e
  exact I1.zm1 (ycz _) (I1.hok.fresh (ycz _))
def zxn (ta:TA):TI:=fun σ H R=>ta σ H fun vs H1=>∃ j:Int,vs=[.int j] /\ -(2 ^ 62)<=j/\j<2 ^ 62/\R (Itr 0 j.toNat) H1
def zxv (ta:TA):TI:=fun σ H R=>ta σ H fun vs H1=>∃ i j:Int,vs=[.int i,.int j]/\(-(2 ^ 62)<=i/\i<2 ^ 62 /\ -(2 ^ 62)<=j/\j<2 ^ 62)/\R (Itr i (j-i).toNat) H1
theorem zfi {a:Expr} {ta:TA} {p pos:Pos} (hg:Gl X "range") (hm:X.mg "range" = none) (ha:PA X [a] ta) (hs:starEach [a] X.env=[(false,eval a X.env)]:=by rfl):PI X tg (.Call (.Name "range" p) [a] [] pos) (zxn ta):=by
 intro pins s σ H R I h
 refine Call_ (zjO I hg hm boot_range (PyProof.Rows.callWith_type1 (thn (ha pos pins s σ H _ I h) fun us s1 ⟨vs,H1,I1,r1,q1⟩=>?_) hs rfl))
 obtain ⟨j,e,q1,q2,q⟩:=q1
 subst e
 cases r1 with
 | cons r rr =>
  cases rr
  obtain ⟨t,rfl⟩:=r
  exact call_range_1 (zpj I1 (by ac_rfl) (by ac_rfl) q1 q2 (by simpa using q))
theorem ztZ {a b:Expr} {ta:TA} {p pos:Pos} (hg:Gl X "range") (hm:X.mg "range" = none) (ha:PA X [a,b] ta) (hs:starEach [a,b] X.env=[(false,eval a X.env),(false,eval b X.env)]:=by rfl) (hs2:starEach [b] X.env=[(false,eval b X.env)]:=by rfl) :
  PI X tg (.Call (.Name "range" p) [a,b] [] pos) (zxv ta):=by
 intro pins s σ H R I h
 refine Call_ (zjO I hg hm boot_range (PyProof.Rows.callWith_type1 (thn (ha pos pins s σ H _ I h) fun us s1 ⟨vs,H1,I1,r1,q1⟩=>?_) (by rw[hs,hs2]) (by rw[hs2];rfl)))
 obtain ⟨i,j,e,⟨q1,q2,q3,q4⟩,q⟩:=q1
 subst e
 cases r1 with
 | cons r rr =>
  cases rr with
  | cons r' rr =>
   cases rr
   obtain ⟨t,rfl⟩:=r
   obtain ⟨t',rfl⟩:=r'
   exact call_range_2 (zpj I1 q1 q2 q3 q4 q)
def zx8 (wi:TI) (g:TG) (tb:TS):TS:=fun D σ H=>wi σ H fun J H1=>∃ W:Nat->Nat->St->Hp->Prop,(∃ m,W 0 m σ H1)/\∀ i m σ H,W i m σ H ->
 (J.stop i H/\D.nx σ H)\/(J.go i H/\∃ N:St->Hp->Prop,(∀ σ' H',N σ' H'->∃ m',m'<m/\W (i+1) m' σ' H')/\∀ x H',J.yld i H x H'->g x σ H' fun σ2 H2=>tb { D with nx:=N,ct:=N,bk:=D.nx } σ2 H2)
noncomputable def zg0 (fp:List Addr) (h:Heap):List (Addr × Obj):=fp.filterMap fun b=>(h.get? b).map fun o=>(b,o)
theorem za1 {fp:List Addr} {h:Heap} {b:Addr} {o:Obj} (hb:b∈fp) (e:h.get? b=some o):(b,o)∈zg0 fp h:=List.mem_filterMap.mpr ⟨b,hb,by rw[e];rfl⟩
theorem ztv {fp:List Addr} {h:Heap} {p:Addr × Obj} (hp:p∈zg0 fp h):p.1∈fp/\h.get? p.1=some p.2:=by
 obtain ⟨b,hb,e⟩:=List.mem_filterMap.mp hp
 cases q:h.get? b with
 | none=>rw[q] at e;cases e
 | some o =>
  rw[q] at e
  have e':(b,o)=p:=Option.some.inj e
  subst e'
  exact ⟨hb,q⟩
theorem Inv.pinned {pins:List (Addr × Obj)} {σ:St} {H:Hp} {s:Shared} {fp:List Addr} (I:Inv X pins σ H s) (hf:∀ b∈fp,zaL X pins H b) (ho:∀ b∈fp,∃ o,s.heap.get? b=some o/\∀ v,o.data≠.cell v):Inv X (pins++zg0 fp s.heap) σ H s :=
 I.zmS fun p hp=>(yaf.mp hp).elim (fun z=>I.pin p (yag _ z)) fun z=>by
  obtain ⟨hb,e⟩:=ztv z
  obtain ⟨f0,f1,f2,_⟩:=hf p.1 hb
  obtain ⟨o,e',d⟩:=ho p.1 hb
  rw[e] at e';cases e'
  exact ⟨e,f0,f1,f2,d⟩
theorem Inv.unpinned {pins pl:List (Addr × Obj)} {σ:St} {H:Hp} {s:Shared} (I:Inv X (pins++pl) σ H s):Inv X pins σ H s:=I.zmS fun p hp=>I.pin p (yag _ (ybn _ hp))
theorem zbQ {iter:Expr} {body:List Stmt} {wi:TI} {g:TG} {tb:TS} {pos:Pos} (hp:PassesOwn (model X.prog X.w) X.A X.env X.xe) (hc:X.calm=true) (hi:PI X tg iter wi) (hg:PG X tg g) (hb:PSs X body tb)
  (hs:∀ x,foldedSetIterable iter X.env x=pure x:=by intro _;rfl):PS X (.For tg iter body [] pos) (zx8 wi g tb):=by
 intro pins s σ H D I h
 refine wpAny_For (thn (hi pins s σ H _ I h) fun v s1 h1=>thn h1 fun itv s2 h2=>?_) hs
 obtain ⟨it,fp,tn,J,H2,e,I2,T,st2,f2,W,⟨m0,w0⟩,turn⟩:=h2
 subst e
 have stat:∀ {H':Hp},(∀ b∈fp,H' b=none)->∀ b∈fp,zaL X pins H' b:=fun hn b hb=>⟨hn b hb,(f2 b hb).2⟩
 refine codeAny_forLoop_any (fun n s'=>∃ i σ' H',Inv X pins σ' H' s'/\tn i s'.heap/\(∀ b∈fp,H' b=none)/\W i n σ' H') ?_ m0 ⟨0,σ,H2,I2,st2,fun b hb=>(f2 b hb).1,w0⟩
 rintro n s3 ⟨i,σ3,H3,I3,st3,fr3,w3⟩
 rcases turn i n σ3 H3 w3 with ⟨stop,qn⟩ | ⟨go,N,hN,step⟩
 ·refine wpAny_passesOwn hp (thn (T.done X rfl rfl rfl hc i pins s3 σ3 H3 X.xe I3 (stat fr3) st3 stop) fun r s4 ⟨hr,I4⟩=>?_)
  subst hr
  exact wpAny_execs_nil ⟨σ3,H3,I4,qn⟩
 ·refine wpAny_passesOwn hp (thn (T.item X rfl rfl rfl hc i pins s3 σ3 H3 X.xe I3 (stat fr3) st3 go) fun r s4 ⟨u,hr,h4⟩=>?_)
  subst hr
  refine wpAny_passesOwn hp (thn h4 fun _ s5 ⟨x,H5,I5,r5,y5,st5,fr5⟩=>?_)
  have I5':=I5.pinned (stat fr5) (T.obj _ _ st5)
  refine wpAny_passesOwn hp (thn (hg _ s5 σ3 H5 x u _ I5' r5 (step x H5 y5)) fun _ s6 ⟨σ6,H6,I6,q6⟩=>?_)
  refine wpAny_passesOwn hp (thn (hb _ s6 σ6 H6 _ I6 q6) fun f s7 q7=>?_)
  have again:∀ {σ7:St} {H7:Hp},Inv X (pins++zg0 fp s5.heap) σ7 H7 s7->N σ7 H7->∃ m,m<n/\∃ i σ' H',Inv X pins σ' H' s7/\tn i s7.heap/\(∀ b∈fp,H' b=none)/\W i m σ' H':=fun {σ7 H7} I7 n7=>by
   obtain ⟨m',hm,w7⟩:=hN σ7 H7 n7
   refine ⟨m',hm,i+1,σ7,H7,I7.unpinned,T.keep _ _ _ st5 fun b hb o e=>(I7.pin (b,o) (yag _ (yag _ (za1 hb e)))).1,fun b hb=>?_,w7⟩
   obtain ⟨o,e,d⟩:=T.obj _ _ st5 b hb
   exact (I7.pin (b,o) (yag _ (yag _ (za1 hb e)))).2.1
  cases f with
  | next=>obtain ⟨σ7,H7,I7,n7⟩:=q7;exact again I7 n7
  | cont=>obtain ⟨σ7,H7,I7,n7⟩:=q7;exact again I7 n7
  | brk=>obtain ⟨σ7,H7,I7,q7⟩:=q7;exact ⟨σ7,H7,I7.unpinned,q7⟩
  | ret v=>obtain ⟨x7,σ7,H7,I7,r7,q7⟩:=q7;exact ⟨x7,σ7,H7,I7.unpinned,r7,q7⟩
end
theorem zbH {K:W.Frag} {a:Addr} {xs:List V} {g:TG} {tb:TS} {D:Ends} {σ:St} {H:Hp} (Pv:Nat->St->Hp->Prop) (h0:Pv 0 σ H) (hl:∀ i σ H,i<=xs.length->Pv i σ H->SqL K H a xs)
  (hs:∀ i x σ H,xs[i]?=some x->Pv i σ H->g x σ H fun σ2 H2=>tb { D with nx:=Pv (i+1),ct:=Pv (i+1),bk:=D.nx } σ2 H2) (hd:∀ σ H,Pv xs.length σ H->D.nx σ H) :
  ∃ W:Nat->Nat->St->Hp->Prop,(∃ m,W 0 m σ H)/\∀ i m σ H,W i m σ H ->
   ((Itl K a).stop i H/\D.nx σ H)\/((Itl K a).go i H/\∃ N:St->Hp->Prop,(∀ σ' H',N σ' H'->∃ m',m'<m/\W (i+1) m' σ' H')/\∀ x H',(Itl K a).yld i H x H'->g x σ H' fun σ2 H2=>tb { D with nx:=N,ct:=N,bk:=D.nx } σ2 H2):=by
 refine ⟨fun i m σ H=>m=xs.length-i/\i<=xs.length/\Pv i σ H,⟨xs.length,by simp,ydb _,h0⟩,?_⟩
 rintro i m σ H ⟨rfl,hi,p⟩
 have q:=hl i σ H hi p
 by_cases hlt:i<xs.length
 ·refine .inr ⟨⟨xs,xs[i],q,by simp[hlt]⟩,Pv (i+1),fun σ' H' p'=>⟨xs.length-(i+1),by ac_rfl,rfl,hlt,p'⟩,fun x H' y=>?_⟩
  obtain ⟨e,y⟩:=y
  subst e
  exact hs i x σ _ (y xs q) p
 ·have e:i=xs.length:=by ac_rfl
  subst e
  exact .inl ⟨⟨xs,q,ycz _⟩,hd σ H p⟩
theorem zjS {lo:Int} {n:Nat} {g:TG} {tb:TS} {D:Ends} {σ:St} {H:Hp} (Pv:Nat->St->Hp->Prop) (h0:Pv 0 σ H)
  (hs:∀ i σ H,i<n->Pv i σ H->g (.int (lo+i)) σ H fun σ2 H2=>tb { D with nx:=Pv (i+1),ct:=Pv (i+1),bk:=D.nx } σ2 H2) (hd:∀ σ H,Pv n σ H->D.nx σ H) :
  ∃ W:Nat->Nat->St->Hp->Prop,(∃ m,W 0 m σ H)/\∀ i m σ H,W i m σ H ->
   ((Itr lo n).stop i H/\D.nx σ H)\/((Itr lo n).go i H/\∃ N:St->Hp->Prop,(∀ σ' H',N σ' H'->∃ m',m'<m/\W (i+1) m' σ' H')/\∀ x H',(Itr lo n).yld i H x H'->g x σ H' fun σ2 H2=>tb { D with nx:=N,ct:=N,bk:=D.nx } σ2 H2):=by
 refine ⟨fun i m σ H=>m=n-i/\i<=n/\Pv i σ H,⟨n,by simp,ydb _,h0⟩,?_⟩
 rintro i m σ H ⟨rfl,hi,p⟩
 by_cases hlt:i<n
 ·refine .inr ⟨hlt,Pv (i+1),fun σ' H' p'=>⟨n-(i+1),by ac_rfl,rfl,hlt,p'⟩,fun x H' y=>?_⟩
  obtain ⟨e,y⟩:=y
  subst e y
  exact hs i σ _ hlt p
 ·have e:i=n:=by ac_rfl
  subst e
  exact .inl ⟨ycz _,hd σ H p⟩
noncomputable abbrev R2:=V->V->Hp->VK->Prop
def OpR (X:Cx) (f:Value->Value->Sem Value) (r:R2):Prop :=
 ∀ (pins:List (Addr × Obj)) (s:Shared) (σ:St) (H:Hp) (x y:V) (v u:Value) (Q:VK),Inv X pins σ H s->RelV x v->RelV y u->r x y H Q ->
  wpAny (model X.prog X.w) X.A (f v u) (EP X pins σ Q) X.xe s
def UnR (X:Cx) (f:Value->Sem Value) (r:V->Hp->VK->Prop):Prop :=
 ∀ (pins:List (Addr × Obj)) (s:Shared) (σ:St) (H:Hp) (x:V) (v:Value) (Q:VK),Inv X pins σ H s->RelV x v->r x H Q ->
  wpAny (model X.prog X.w) X.A (f v) (EP X pins σ Q) X.xe s
def zbh (X:Cx) (f:Value) (r:List V->Hp->VK->Prop):Prop :=
 ∀ (pins:List (Addr × Obj)) (s:Shared) (σ:St) (H:Hp) (xs:List V) (us:List Value) (Q:VK),Inv X pins σ H s->Vals xs us->r xs H Q ->
  wpAny (model X.prog X.w) X.A (call f us) (EP X pins σ Q) X.xe s
def tOp (r:R2) (ta tb:TE):TE:=fun σ H Q=>ta σ H fun x H1=>tb σ H1 fun y H2=>r x y H2 Q
def tUn (r:V->Hp->VK->Prop) (ta:TE):TE:=fun σ H Q=>ta σ H fun x H1=>r x H1 Q
def rI (C:Int->Int->Prop) (g:Int->Int->V):R2:=fun x y H Q=>∃ i j,x=.int i/\y=.int j/\C i j/\Q (g i j) H
def rI0 (g:Int->Int->V):R2:=fun x y H Q=>∃ i j,x=.int i/\y=.int j/\Q (g i j) H
noncomputable def rU (g:Int->V):V->Hp->VK->Prop:=fun x H Q=>∃ i,x=.int i/\Q (g i) H
section
variable {X:Cx} {a b c:Expr} {ta tb tc:TE} {pos:Pos}
theorem zu6 (ha:PE X a ta) (hb:PE X b tb) {pins:List (Addr × Obj)} {s:Shared} {σ:St} {H:Hp} {R:V->V->Hp->Prop} (I:Inv X pins σ H s)
  (h:ta σ H fun x H1=>tb σ H1 fun y H2=>R x y H2) {Q:Value->Shared->Prop} {f:Value->Value->Sem Value}
  (hf:∀ v u s2 x y H2,Inv X pins σ H2 s2->RelV x v->RelV y u->R x y H2->wpAny (model X.prog X.w) X.A (f v u) Q X.xe s2) :
  wpAny (model X.prog X.w) X.A (eval a X.env) (fun v s₁=>wpAny (model X.prog X.w) X.A (eval b X.env) (fun u s₂=>wpAny (model X.prog X.w) X.A (f v u) Q X.xe s₂) X.xe s₁) X.xe s:=by
 refine thn (ha pins s σ H _ I h) fun v s1 ⟨x,H1,I1,r1,q1⟩=>?_
 refine thn (hb pins s1 σ H1 _ I1 q1) fun u s2 ⟨y,H2,I2,r2,q2⟩=>?_
 exact hf v u s2 x y H2 I2 r1 r2 q2
theorem zi {op:Operator} {r:R2} (ho:OpR X (binaryOp op) r) (ha:PE X a ta) (hb:PE X b tb):PE X (.BinOp a op b pos) (tOp r ta tb):=by
 intro pins s σ H Q I h
 exact wpAny_BinOp (zu6 ha hb I h fun v u s2 x y H2 I2 rx ry q=>ho pins s2 σ H2 x y v u Q I2 rx ry q)
theorem ziK {op:UnaryOp} {r:V->Hp->VK->Prop} (ho:UnR X (unaryOp op) r) (ha:PE X a ta):PE X (.UnaryOp op a pos) (tUn r ta):=by
 intro pins s σ H Q I h
 exact UnaryOp_ (thn (ha pins s σ H _ I h) fun v s1 ⟨x,H1,I1,r1,q1⟩=>ho pins s1 σ H1 x v Q I1 r1 q1)
theorem opI {f:Value->Value->Sem Value} {C:Int->Int->Prop} {g:Int->Int->Int}
  (rule:∀ (i j:Int) (t u:Tok) (s:Shared) (Q:Value->Shared->Prop) (E:Value->Shared->Prop),C i j->Q (.int (g i j) s.toks) { s with toks:=s.toks+1 }->wpAny (model X.prog X.w) X.A (f (.int i t) (.int j u)) Q E s) :
  OpR X f (rI C fun i j=>.int (g i j)):=by
 intro pins s σ H x y v u Q I rx ry h
 obtain ⟨i,j,rfl,rfl,hc,q⟩:=h
 obtain ⟨t,rfl⟩:=rx
 obtain ⟨t',rfl⟩:=ry
 exact rule i j t t' s _ _ hc ⟨.int (g i j),H,I.tok _,⟨_,rfl⟩,q⟩
theorem zw5 {f:Value->Value->Sem Value} {g:Int->Int->Int}
  (rule:∀ (i j:Int) (t u:Tok) (s:Shared) (Q:Value->Shared->Prop) (E:Value->Shared->Prop),Q (.int (g i j) s.toks) { s with toks:=s.toks+1 }->wpAny (model X.prog X.w) X.A (f (.int i t) (.int j u)) Q E s) :
  OpR X f (rI0 fun i j=>.int (g i j)):=by
 intro pins s σ H x y v u Q I rx ry h
 obtain ⟨i,j,rfl,rfl,q⟩:=h
 obtain ⟨t,rfl⟩:=rx
 obtain ⟨t',rfl⟩:=ry
 exact rule i j t t' s _ _ ⟨.int (g i j),H,I.tok _,⟨_,rfl⟩,q⟩
theorem zsx {f:Value->Value->Sem Value} {g:Int->Int->Bool}
  (rule:∀ (i j:Int) (t u:Tok) (s:Shared) (Q:Value->Shared->Prop) (E:Value->Shared->Prop),Q (.bool (g i j)) s->wpAny (model X.prog X.w) X.A (f (.int i t) (.int j u)) Q E s) :
  OpR X f (rI0 fun i j=>.bl (g i j)):=by
 intro pins s σ H x y v u Q I rx ry h
 obtain ⟨i,j,rfl,rfl,q⟩:=h
 obtain ⟨t,rfl⟩:=rx
 obtain ⟨t',rfl⟩:=ry
 exact rule i j t t' s _ _ ⟨.bl (g i j),H,I,rfl,q⟩
def CDiv (i j:Int):Prop:=0<j/\j<1073741824
def CPow (i j:Int):Prop:=0<=j/\j<=1000000/\i.natAbs<2 ^ 64
def CMul (i j:Int):Prop:=(-(2 ^ 64)<i/\i<2 ^ 64)\/(-(2 ^ 64)<j/\j<2 ^ 64)
theorem CMul.ok {i j:Int} (h:CMul i j):IntMulOk i j:=by
 rcases h with ⟨h1,h2⟩ | ⟨h1,h2⟩
 ·exact .of_left (intBits_le_64 h1 h2)
 ·exact .of_right (intBits_le_64 h1 h2)
theorem zz:OpR X (binaryOp .Add) (rI0 fun i j=>.int (i+j)):=zw5 fun _ _ _ _ _ _ _ q=>add_int q
theorem zak:OpR X (binaryOp .Sub) (rI0 fun i j=>.int (i-j)):=zw5 fun _ _ _ _ _ _ _ q=>sub_int q
theorem zaj:OpR X (binaryOp .Mult) (rI CMul fun i j=>.int (i*j)):=opI fun _ _ _ _ _ _ _ hc q=>mul_int q hc.ok
theorem zba:OpR X (binaryOp .FloorDiv) (rI CDiv fun i j=>.int (i / j)):=opI fun i j _ _ _ _ _ hc q=>by
 have h1:(0:Int)<j:=hc.1
 have h2:j<1073741824:=hc.2
 exact floordiv_int (by ac_rfl) (by rw[Int.fdiv_eq_ediv_of_nonneg i (by ac_rfl)];exact q) (.inl (PyProof.noPylong_small (by ac_rfl)))
theorem zL:OpR X (binaryOp .Mod) (rI (fun _ j=>0<j) fun i j=>.int (i % j)):=opI fun i j _ _ _ _ _ hc q=>by
 have h1:(0:Int)<j:=hc
 exact mod_int' (by ac_rfl) (by rw[Int.fmod_eq_emod_of_nonneg i (by ac_rfl)];exact q)
theorem zxl:OpR X (binaryOp .Pow) (rI CPow fun i j=>.int (i ^ j.toNat)):=opI fun _ _ _ _ _ _ _ hc q=>pow_int_small hc.1 hc.2.1 hc.2.2 q
theorem unI {f:Value->Sem Value} {g:Int->Int}
  (rule:∀ (i:Int) (t:Tok) (s:Shared) (Q:Value->Shared->Prop) (E:Value->Shared->Prop),Q (.int (g i) s.toks) { s with toks:=s.toks+1 }->wpAny (model X.prog X.w) X.A (f (.int i t)) Q E s) :
  UnR X f (rU fun i=>.int (g i)):=by
 intro pins s σ H x v Q I rx h
 obtain ⟨i,rfl,q⟩:=h
 obtain ⟨t,rfl⟩:=rx
 exact rule i t s _ _ ⟨.int (g i),H,I.tok _,⟨_,rfl⟩,q⟩
theorem zgv:UnR X (unaryOp .USub) (rU fun i=>.int (-i)):=unI fun _ _ _ _ _ q=>neg_int q
end
noncomputable def scal:V->V->Bool
 | .non,.non=>true | .non,.int _=>true | .int _,.non=>true | .non,.bl _=>true | .bl _,.non=>true | .non,.str _=>true | .str _,.non=>true
 | .int _,.int _=>true | .bl _,.bl _=>true | .str _,.str _=>true | .byt _,.byt _=>true
 | .int _,.str _=>true | .str _,.int _=>true | .bl _,.str _=>true | .str _,.bl _=>true
 | _,_=>false
def rEq:R2:=fun x y H Q=>scal x y=true/\Q (.bl (decide (x=y))) H
def rNe:R2:=fun x y H Q=>scal x y=true/\Q (.bl (!decide (x=y))) H
theorem zrf {i j:Int}:decide (V.int i=V.int j)=(i == j):=by
 rw[Bool.eq_iff_iff]
 simp
theorem ztE {i j:Bool}:decide (V.bl i=V.bl j)=(i == j):=by
 rw[Bool.eq_iff_iff]
 simp
theorem zru {i j:Str}:decide (V.str i=V.str j)=(i == j):=by
 rw[Bool.eq_iff_iff]
 simp
theorem zrN {i j:Array UInt8}:decide (V.byt i=V.byt j)=(i.toList == j.toList):=by
 rw[Bool.eq_iff_iff]
 cases i
 cases j
 simp
section
variable {X:Cx} {a b c:Expr} {ta tb tc:TE} {pos:Pos}
theorem zag {pins:List (Addr × Obj)} {σ:St} {H:Hp} {s:Shared} {Q:VK} {k k':Bool} (I:Inv X pins σ H s) (q:Q (.bl k) H) (e:k=k'):EP X pins σ Q (.bool k') s:=by
 subst e
 exact ⟨.bl k,H,I,rfl,q⟩
theorem zaf:OpR X (compareOp .Eq) rEq:=by
 intro pins s σ H x y v u Q I rx ry h
 obtain ⟨hs,q⟩:=h
 cases x with
 | non =>
  cases rx
  cases y with
  | non=>cases ry;exact PySem.EqNone.eq_none_none (zag I q (by simp))
  | bl j=>cases ry;exact PySem.EqNone.eq_none_bool (zag I q (by simp))
  | int j=>obtain ⟨t',rfl⟩:=ry;exact PySem.EqNone.eq_none_int (zag I q (by simp))
  | str j=>obtain ⟨t',rfl⟩:=ry;exact PySem.EqNone.eq_none_str (zag I q (by simp))
  | _=>exact absurd (show false=true from hs) Bool.false_ne_true
 | bl i =>
  cases rx
  cases y with
  | non=>cases ry;exact PySem.EqNone.eq_bool_none (zag I q (by simp))
  | bl j=>cases ry;exact eq_bool (zag I q ztE)
  | str j=>obtain ⟨t',rfl⟩:=ry;exact PySem.EqMixed.eq_bool_str (zag I q (by simp))
  | _=>exact absurd (show false=true from hs) Bool.false_ne_true
 | int i =>
  obtain ⟨t,rfl⟩:=rx
  cases y with
  | non=>cases ry;exact PySem.EqNone.eq_int_none (zag I q (by simp))
  | int j=>obtain ⟨t',rfl⟩:=ry;exact eq_int (zag I q zrf)
  | str j=>obtain ⟨t',rfl⟩:=ry;exact PySem.EqMixed.eq_int_str (zag I q (by simp))
  | _=>exact absurd (show false=true from hs) Bool.false_ne_true
 | str i =>
  obtain ⟨t,rfl⟩:=rx
  cases y with
  | non=>cases ry;exact PySem.EqNone.eq_str_none (zag I q (by simp))
  | bl j=>cases ry;exact PySem.EqMixed.eq_str_bool (zag I q (by simp))
  | int j=>obtain ⟨t',rfl⟩:=ry;exact PySem.EqMixed.eq_str_int (zag I q (by simp))
  | str j=>obtain ⟨t',rfl⟩:=ry;exact eq_str (zag I q zru)
  | _=>exact absurd (show false=true from hs) Bool.false_ne_true
 | byt i =>
  obtain ⟨t,rfl⟩:=rx
  cases y with
  | byt j=>obtain ⟨t',rfl⟩:=ry;exact PySem.W.eq_bytes (zag I q zrN)
  | _=>exact absurd (show false=true from hs) Bool.false_ne_true
 | _=>cases y <;> exact absurd (show false=true from hs) Bool.false_ne_true
theorem zmw:OpR X (compareOp .NotEq) rNe:=by
 intro pins s σ H x y v u Q I rx ry h
 obtain ⟨hs,q⟩:=h
 cases x with
 | non =>
  cases rx
  cases y with
  | non=>cases ry;exact PySem.EqNone.ne_none_none (zag I q (by simp))
  | bl j=>cases ry;exact PySem.EqNone.ne_none_bool (zag I q (by simp))
  | int j=>obtain ⟨t',rfl⟩:=ry;exact PySem.EqNone.ne_none_int (zag I q (by simp))
  | str j=>obtain ⟨t',rfl⟩:=ry;exact PySem.EqNone.ne_none_str (zag I q (by simp))
  | _=>exact absurd (show false=true from hs) Bool.false_ne_true
 | bl i =>
  cases rx
  cases y with
  | non=>cases ry;exact PySem.EqNone.ne_bool_none (zag I q (by simp))
  | bl j=>cases ry;exact ne_bool (zag I q (congrArg not ztE))
  | str j=>obtain ⟨t',rfl⟩:=ry;exact PySem.EqMixed.ne_bool_str (zag I q (by simp))
  | _=>exact absurd (show false=true from hs) Bool.false_ne_true
 | int i =>
  obtain ⟨t,rfl⟩:=rx
  cases y with
  | non=>cases ry;exact PySem.EqNone.ne_int_none (zag I q (by simp))
  | int j=>obtain ⟨t',rfl⟩:=ry;exact ne_int (zag I q (congrArg not zrf))
  | str j=>obtain ⟨t',rfl⟩:=ry;exact PySem.EqMixed.ne_int_str (zag I q (by simp))
  | _=>exact absurd (show false=true from hs) Bool.false_ne_true
 | str i =>
  obtain ⟨t,rfl⟩:=rx
  cases y with
  | non=>cases ry;exact PySem.EqNone.ne_str_none (zag I q (by simp))
  | bl j=>cases ry;exact PySem.EqMixed.ne_str_bool (zag I q (by simp))
  | int j=>obtain ⟨t',rfl⟩:=ry;exact PySem.EqMixed.ne_str_int (zag I q (by simp))
  | str j=>obtain ⟨t',rfl⟩:=ry;exact ne_str (zag I q (congrArg not zru))
  | _=>exact absurd (show false=true from hs) Bool.false_ne_true
 | byt i =>
  obtain ⟨t,rfl⟩:=rx
  cases y with
  | byt j=>obtain ⟨t',rfl⟩:=ry;exact PySem.W.ne_bytes (zag I q (congrArg not zrN))
  | _=>exact absurd (show false=true from hs) Bool.false_ne_true
 | _=>cases y <;> exact absurd (show false=true from hs) Bool.false_ne_true
theorem ze3:OpR X (compareOp .Lt) (rI0 fun i j=>.bl (decide (i<j))):=zsx fun _ _ _ _ _ _ _ q=>lt_int q
theorem zc4:OpR X (compareOp .LtE) (rI0 fun i j=>.bl (decide (i<=j))):=zsx fun _ _ _ _ _ _ _ q=>le_int q
theorem zkE:OpR X (compareOp .Gt) (rI0 fun i j=>.bl (decide (j<i))):=zsx fun _ _ _ _ _ _ _ q=>gt_int q
theorem zsu:OpR X (compareOp .GtE) (rI0 fun i j=>.bl (decide (j<=i))):=zsx fun _ _ _ _ _ _ _ q=>ge_int q
theorem nomark (b:Expr) {op:CmpOp} (h:op≠.In:=by decide) (h2:op≠.NotIn:=by decide):behindInMarks op b=false:=by
 have e1:(op == CmpOp.In)=false:=by cases op <;> first | rfl | exact absurd rfl h
 have e2:(op == CmpOp.NotIn)=false:=by cases op <;> first | rfl | exact absurd rfl h2
 cases b <;> simp[behindInMarks,e1,e2]
theorem zdz {op:CmpOp} {r:R2} (ho:OpR X (compareOp op) r) (ha:PE X a ta) (hb:PE X b tb) (hm:behindInMarks op b=false):PE X (.Compare a [op] [b] pos) (tOp r ta tb):=by
 intro pins s σ H Q I h
 exact wpAny_Compare1 (zu6 ha hb I h fun v u s2 x y H2 I2 rx ry q=>ho pins s2 σ H2 x y v u Q I2 rx ry q) hm
def zvh (t:TE):TT:=fun σ H Q=>t σ H fun x H'=>∃ k,x=.bl k/\Q k H'
theorem zu {op:CmpOp} {r:R2} (ho:OpR X (compareOp op) r) (ha:PE X a ta) (hb:PE X b tb) (hm:behindInMarks op b=false):PT X (.Compare a [op] [b] pos) (zvh (tOp r ta tb)):=by
 intro pins s σ H Q I h
 refine wpAny_isTrue_Compare1 (thn (ha pins s σ H _ I h) fun v s1 ⟨x,H1,I1,r1,q1⟩=>thn (hb pins s1 σ H1 _ I1 q1) fun u s2 ⟨y,H2,I2,r2,q2⟩ =>
  thn (ho pins s2 σ H2 x y v u _ I2 r1 r2 q2) fun c s3 ⟨z,H3,I3,r3,k,e,q3⟩=>?_) hm
 subst e
 cases r3
 exact wpAny_truthy_bool ⟨H3,I3,q3⟩
def ztm (r r':R2) (ta tb tc:TE):TE:=fun σ H Q=>ta σ H fun x H1=>tb σ H1 fun y H2=>r x y H2 fun z H3=>∃ k,z=.bl k /\
 (if k=true then tc σ H3 fun w' H4=>r' y w' H4 Q else Q (.bl false) H3)
theorem zuM {op op':CmpOp} {r r':R2} (ho:OpR X (compareOp op) r) (ho':OpR X (compareOp op') r') (ha:PE X a ta) (hb:PE X b tb) (hc:PE X c tc)
  (hm:lastMarks [op,op'] [b,c]=false:=by with_unfolding_all rfl):PE X (.Compare a [op,op'] [b,c] pos) (ztm r r' ta tb tc):=by
 intro pins s σ H Q I h
 refine Compare_chain (thn (ha pins s σ H _ I h) fun v s1 ⟨x,H1,I1,r1,q1⟩=>chain_link (thn (hb pins s1 σ H1 _ I1 q1) fun u s2 ⟨y,H2,I2,r2,q2⟩ =>
  thn (ho pins s2 σ H2 x y v u _ I2 r1 r2 q2) fun d s3 ⟨z,H3,I3,r3,k,e,q3⟩=>?_)) hm
 subst e
 cases r3
 refine wpAny_truthy_bool ?_
 cases k with
 | false=>exact ite_ff ⟨.bl false,H3,I3,rfl,q3⟩
 | true=>exact ite_tt (chain_last (thn (hc pins s3 σ H3 _ I3 q3) fun w' s4 ⟨z',H4,I4,r4,q4⟩=>ho' pins s4 σ H4 y z' u w' Q I4 r2 r4 q4))
theorem zps {op op':CmpOp} {r r':R2} (ho:OpR X (compareOp op) r) (ho':OpR X (compareOp op') r') (ha:PE X a ta) (hb:PE X b tb) (hc:PE X c tc)
  (hm:lastMarks [op,op'] [b,c]=false:=by with_unfolding_all rfl):PT X (.Compare a [op,op'] [b,c] pos) (zvh (ztm r r' ta tb tc)):=by
 intro pins s σ H Q I h
 refine isTrue_chain (thn (ha pins s σ H _ I h) fun v s1 ⟨x,H1,I1,r1,q1⟩=>test_link (thn (hb pins s1 σ H1 _ I1 q1) fun u s2 ⟨y,H2,I2,r2,q2⟩ =>
  thn (ho pins s2 σ H2 x y v u _ I2 r1 r2 q2) fun d s3 ⟨z,H3,I3,r3,k,e,q3⟩=>?_)) hm
 subst e
 cases r3
 refine wpAny_truthy_bool ?_
 cases k with
 | false =>
  obtain ⟨k',e',q'⟩:=q3
  cases e'
  exact ite_ff ⟨H3,I3,q'⟩
 | true =>
  refine ite_tt (test_last (thn (hc pins s3 σ H3 _ I3 q3) fun w' s4 ⟨z',H4,I4,r4,q4⟩=>thn (ho' pins s4 σ H4 y z' u w' _ I4 r2 r4 q4) fun d' s5 ⟨z2,H5,I5,r5,k2,e2,q5⟩=>?_))
  subst e2
  cases r5
  exact wpAny_truthy_bool ⟨H5,I5,q5⟩
theorem zlY:(sizeLine:Nat)<2 ^ 63:=by rw[sizeLine_eq];decide
theorem vals1 {x:V} {us:List Value} (r:Vals [x] us):∃ u,us=[u]/\RelV x u:=by
 cases r with
 | cons r1 r2=>cases r2;exact ⟨_,rfl,r1⟩
theorem vals2 {x y:V} {us:List Value} (r:Vals [x,y] us):∃ u w',us=[u,w']/\RelV x u/\RelV y w':=by
 cases r with
 | cons r1 r2 =>
  cases r2 with
  | cons r3 r4=>cases r4;exact ⟨_,_,rfl,r1,r3⟩
theorem zbm (hc:X.calm=true):zbh X (.builtin "max") (fun xs H Q=>∃ i j,xs=[.int i,.int j]/\Q (.int (if j > i then j else i)) H):=by
 intro pins s σ H xs us Q I r h
 obtain ⟨i,j,rfl,q⟩:=h
 obtain ⟨u,w',rfl,⟨t,rfl⟩,⟨t',rfl⟩⟩:=vals2 r
 refine max_two_ints (I.ok.hd hc) fun h' tk k=>⟨_,H,I.kept k,?_,q⟩
 by_cases hj:j > i
 ·rw[if_pos hj,if_pos hj];exact ⟨_,rfl⟩
 ·rw[if_neg hj,if_neg hj];exact ⟨_,rfl⟩
theorem za8 (hc:X.calm=true):zbh X (.builtin "min") (fun xs H Q=>∃ i j,xs=[.int i,.int j]/\Q (.int (if j<i then j else i)) H):=by
 intro pins s σ H xs us Q I r h
 obtain ⟨i,j,rfl,q⟩:=h
 obtain ⟨u,w',rfl,⟨t,rfl⟩,⟨t',rfl⟩⟩:=vals2 r
 refine min_two_ints (I.ok.hd hc) fun h' tk k=>⟨_,H,I.kept k,?_,q⟩
 by_cases hj:j<i
 ·rw[if_pos hj,if_pos hj];exact ⟨_,rfl⟩
 ·rw[if_neg hj,if_neg hj];exact ⟨_,rfl⟩
theorem zfn:zbh X (.type "int") (fun xs H Q=>(∃ i,xs=[.int i]/\Q (.int i) H)\/∃ k,xs=[.bl k]/\Q (.int (if k then 1 else 0)) H):=by
 intro pins s σ H xs us Q I r h
 rcases h with ⟨i,rfl,q⟩ | ⟨k,rfl,q⟩
 ·obtain ⟨u,rfl,t,rfl⟩:=vals1 r
  exact call_int_int ⟨.int i,H,I,⟨_,rfl⟩,q⟩
 ·obtain ⟨u,rfl,r1⟩:=vals1 r
  cases r1
  exact call_int_bool ⟨.int (if k then 1 else 0),H,I.tok _,⟨_,rfl⟩,q⟩
end
structure zlL (h:Heap) (x dx C:Addr) (mA:Str->Option Value):Prop where
 obj:h.get? x=some (PySem.W.instObj C dx)
 ns:h.Ns1 dx mA
 ne:dx≠x
theorem ztW {h:Heap} {dx:Addr} {mA:Str->Option Value} (n:h.Ns1 dx mA):∃ od,h.get? dx=some od/\∀ name,PySem.W.lookIn name od=some (mA name):=by
 obtain ⟨o,es,ep,ho,hd,hk,_,hm⟩:=n
 refine ⟨o,ho,fun name=>?_⟩
 have e:=hm name
 unfold nsFind findBy at e
 rw[<-Array.find?_toList] at e
 unfold PySem.W.lookIn
 rw[hd]
 dsimp only
 split
 ·rename_i y q
  rw[q] at e
  exact congrArg some e
 ·rename_i q
  rw[q] at e
  have a:es.toList.any (·.refKey)=false:=by
   rw[List.any_eq_false]
   intro y hy
   obtain ⟨z,t,hkey⟩:=hk y (Array.mem_toList_iff.mp hy)
   simp[DictEntry.refKey,hkey]
  have a':¬ es.toList.any (·.refKey)=true:=by rw[a];exact Bool.false_ne_true
  rw[if_neg a']
  exact congrArg some e
theorem zlL.look {h:Heap} {x dx C:Addr} {mA:Str->Option Value} (I:zlL h x dx C mA):∃ od,PySem.W.InstAt h x (PySem.W.instObj C dx) C (some od)/\∀ name,PySem.W.lookIn name od=some (mA name) :=
 let ⟨od,ho,hl⟩:=ztW I.ns
 ⟨od,⟨I.obj,rfl,rfl,ho⟩,hl⟩
section
variable {prog:Program} {w:World} {A:Around} {E:Value->Shared->Prop} {s:Shared} {K:W.Frag} {x dx C f:Addr} {mA:Str->Option Value} {name:Str} {v:Value}
theorem get_map {expr:Bool} {Q:Value->Shared->Prop} (X:K.In s.heap) (I:zlL s.heap x dx C mA) (hg:PySem.W.plainGet K C name=true) (hh:PySem.W.hasDictIn K C=true)
  (ha:PySem.W.findIn K (.ref C) name=some none) (hv:mA name=some v) (hv':PySem.W.handedIn v=true) (h:Q v { s with toks:=s.toks+1 }) :
  wpAny (model prog w) A (getAttr (.ref x) name expr) Q E s:=by
 obtain ⟨od,J,hl⟩:=I.look
 exact PySem.W.get_value X J (PySem.W.plainGet_of hg).1 (PySem.W.findObj_own hh ha rfl (by rw[hl,hv])) hv' h
theorem zuQ {pl:Sem Bool} {Q:Value × List Value->Shared->Prop} (X:K.In s.heap) (I:zlL s.heap x dx C mA) (hg:PySem.W.plainGet K C name=true)
  (hf:PySem.W.findIn K (.ref C) name=some (some (.ref f))) (ht:PySem.W.isFn K (.ref f)=true) (hv:mA name=none) (h:Q (.ref f,[.ref x]) s) :
  wpAny (model prog w) A (getMethod (.ref x) name pl) Q E s:=by
 obtain ⟨od,J,hl⟩:=I.look
 exact PySem.W.method_fn X J (PySem.W.plainGet_of hg).1 (PySem.W.plainGet_of hg).2 hf (beq_iff_eq.mp ht) (by show (PySem.W.lookIn name od).map (·.isSome)=some false;rw[hl,hv];rfl) h
theorem zwb {ns:List Str} {Q:Unit->Shared->Prop} (X:K.In s.heap) (I:zlL s.heap x dx C mA)
  (hs:PySem.W.findIn K (.ref C) "__setattr__" = some (some (.builtin "object.__setattr__"))) (hp:PySem.W.plainOver K C=true) (ht:PySem.W.takerIn K C name=some none) (hh:PySem.W.hasDictIn K C=true)
  (hw:PySem.Within mA ns) (hsz:ns.length<=sizeLine)
  (h:∀ h',zlL h' x dx C (fun y=>if y=name then some v else mA y)->Heap.SameBut dx s.heap h'->Q () { s with heap:=h',toks:=s.toks+2 }) :
  wpAny (model prog w) A (setAttr (.ref x) name v) Q E s:=by
 obtain ⟨od,J,hl⟩:=I.look
 refine PySem.W.set_plain X J hs (PySem.W.osa_open (s:={ s with toks:=s.toks+1 }) (r:=none) X J hp ht fun b=>?_)
 obtain ⟨cd,hc,hd'⟩:=PySem.W.any_some hh
 have hx:s.heap.get? x=some ⟨.ref C,some dx,.plain,#[]⟩:=I.obj
 refine wpAny_bind (wpAny_pure (wpAny_bind (wpAny_bind (wpAny_loadPart hx (wpAny_bind (PySem.W.Looks.here (s:={ s with toks:=s.toks+1 }) (PySem.W.looks_clsIn X hc) ?_))))))
 rw[hd']
 refine wpAny_pure (a:=some dx) (wpAny_bind (wpAny_pure (wpAny_bind ?_)))
 refine wpAny_nsSet1 (s:={ s with toks:=s.toks+1 }) I.ns fun h' hn2 hs2=>?_
 obtain ⟨oD,esD,epD,hoD,hdD,hcD⟩:=hn2.count (PySem.Within.cons name v hw)
 refine wpAny_bind (wpAny_lookBehind hoD (by rw[hdD];exact pastItsLine_dict (yde hcD (by rw[ybc];ac_rfl))) ?_)
 exact wpAny_pure (h _ ⟨(hs2.2 _ (Ne.symm I.ne)).trans I.obj,hn2,I.ne⟩ hs2)
theorem zuH {R:Result->Shared->Prop} {vs:List Value} {kw:List (Str × Value)} (X:K.In s.heap) (hm:PySem.W.makesIn K C=true)
  (hi:PySem.W.findIn K (.ref C) "__init__" = some (some (.ref f))) (hf:PySem.W.typeIn K (.ref f)=some (.type "function"))
  (h:codeAny (model prog w) (A.under (.builtin "type.__call__" ⟨.ref C::vs,kw⟩)) (.call (.ref f) ⟨.ref (s.heap.objs.size+1)::vs,kw⟩) (PySem.W.InitBack (s.heap.objs.size+1) R)
   { s with heap:=(s.heap.push PySem.W.emptyDict).push (PySem.W.instObj C s.heap.objs.size) }) :
  codeAny (model prog w) A (.call (.ref C) ⟨vs,kw⟩) R s:=by
 obtain ⟨hh,g,d,t,os⟩:=s
 exact PySem.W.make_core (PySem.W.makes_of X hm) (PySem.W.looks_findIn X hi) (fun self=>PySem.W.bind_fn X self hf) (.inl rfl) h
theorem zsU {R:Result->Shared->Prop} (X:K.In s.heap) (hm:PySem.W.makesIn K C=true)
  (hi:PySem.W.findIn K (.ref C) "__init__" = some (some (.builtin "object.__init__")))
  (hb:∀ self,PySem.W.Looks (model prog w) s.heap (bindSpecial (.builtin "object.__init__") self) (.builtin "object.__init__", [self]))
  (h:codeAny (model prog w) (A.under (.builtin "type.__call__" ⟨[.ref C],[]⟩)) (.call (.builtin "object.__init__") ⟨[.ref (s.heap.objs.size+1)],[]⟩) (PySem.W.InitBack (s.heap.objs.size+1) R)
   { s with heap:=(s.heap.push PySem.W.emptyDict).push (PySem.W.instObj C s.heap.objs.size) }) :
  codeAny (model prog w) A (.call (.ref C) ⟨[],[]⟩) R s:=by
 obtain ⟨hh,g,d,t,os⟩:=s
 exact PySem.W.make_core (PySem.W.makes_of X hm) (PySem.W.looks_findIn X hi) hb (.inr ⟨rfl,rfl⟩) h
end
noncomputable def zaM (f:Str) (v:V):List (Str × V)->List (Str × V)
 | []=>[(f,v)]
 | (g,x)::r=>if g=f then (g,v)::r else (g,x)::zaM f v r
theorem zli (f g:Str) (v:V):∀ fs:List (Str × V),(zaM f v fs).lookup g=if g=f then some v else fs.lookup g
 | []=>by
  show yby g [(f,v)]=_
  by_cases h:g=f
  ·have hb:(g == f)=true:=beq_iff_eq.mpr h
   simp only[yby,hb,if_pos h]
  ·have hb:(g == f)=false:=beq_eq_false_iff_ne.mpr h
   simp only[yby,hb,if_neg h]
 | (k,x)::r=>by
  have ih:=zli f g v r
  rw[show zaM f v ((k,x)::r)=(if k=f then (k,v)::r else (k,x)::zaM f v r) from rfl]
  by_cases hk:k=f
  ·rw[if_pos hk]
   by_cases h:g=k
   ·have hb:(g == k)=true:=beq_iff_eq.mpr h
    simp only[yby,hb,if_pos (h.trans hk)]
   ·have hb:(g == k)=false:=beq_eq_false_iff_ne.mpr h
    simp only[yby,hb,if_neg (fun e:g=f=>h (e.trans hk.symm))]
  ·rw[if_neg hk]
   by_cases h:g=k
   ·have hb:(g == k)=true:=beq_iff_eq.mpr h
    simp only[yby,hb,if_neg (fun e:g=f=>hk (h.symm.trans e))]
   ·have hb:(g == k)=false:=beq_eq_false_iff_ne.mpr h
    simp only[yby,hb]
    exact ih
theorem zjV (f:Str) (v:V):∀ fs:List (Str × V),f∈(zaM f v fs).map (·.1)/\∀ g,g∈fs.map (·.1)->g∈(zaM f v fs).map (·.1)
 | []=>⟨by simp[zaM],fun g h=>by simp at h⟩
 | (k,x)::r=>by
  obtain ⟨i1,i2⟩:=zjV f v r
  rw[show zaM f v ((k,x)::r)=(if k=f then (k,v)::r else (k,x)::zaM f v r) from rfl]
  by_cases hk:k=f
  ·rw[if_pos hk]
   subst hk
   exact ⟨by simp,fun g h=>by simpa using h⟩
  ·rw[if_neg hk]
   refine ⟨?_,fun g h=>?_⟩
   ·rw[ybi]
    exact yam _ i1
   ·rw[ybi] at h ⊢
    rcases yak.mp h with e | e
    ·exact yak.mpr (.inl e)
    ·exact yam _ (i2 g e)
theorem zlj (f:Str) (v:V):∀ fs:List (Str × V),(zaM f v fs).length<=fs.length+1
 | []=>by simp[zaM]
 | (k,x)::r=>by
  have ih:=zlj f v r
  rw[show zaM f v ((k,x)::r)=(if k=f then (k,v)::r else (k,x)::zaM f v r) from rfl]
  by_cases hk:k=f
  ·rw[if_pos hk,ybc,ybc];ac_rfl
  ·rw[if_neg hk,ybc,ybc];ac_rfl
theorem zhG.some_of {v:V} {o:Option Value} (r:zhG (some v) o):∃ u,o=some u/\RelV v u:=by
 cases o with
 | none=>exact (show False from r).elim
 | some u=>exact ⟨u,rfl,r⟩
theorem zhG.none_of {o:Option Value} (r:zhG none o):o=none:=by
 cases o with
 | none=>rfl
 | some u=>exact (show False from r).elim
theorem zsN {v:V} {u:Value} (r:RelV v u):PySem.W.handedIn u=true:=by
 cases v with
 | non=>cases (show u=Value.none from r);rfl
 | bl b=>cases (show u=Value.bool b from r);rfl
 | int i=>obtain ⟨t,e⟩:=(show ∃ t,u=Value.int i t from r);cases e;rfl
 | str x=>obtain ⟨t,e⟩:=(show ∃ t,u=Value.str x t from r);cases e;rfl
 | byt b=>obtain ⟨t,e⟩:=(show ∃ t,u=Value.bytes b t from r);cases e;rfl
 | flt b=>obtain ⟨t,e⟩:=(show ∃ t,u=Value.float b t from r);cases e;rfl
 | ref a=>cases (show u=Value.ref a from r);rfl
 | ty n=>cases (show u=Value.type n from r);rfl
section
variable {P:Program} {w:World} {H H':Hp} {h h':Heap} {a C dx:Addr} {fs fs':List (Str × V)}
theorem zkV (hok:HOk P w H h) (e:H a=some (.ins C dx fs)):∃ mA,zlL h a dx C mA/\(∀ f,zhG (fs.lookup f) (mA f))/\PySem.Within mA (fs.map (·.1))/\fs.length<=1000/\H dx=some (.own a):=by
 obtain ⟨d,z,ne,ob,mA,n,r,q⟩:=(show zai P w H h a (.ins C dx fs) from hok a _ e)
 exact ⟨mA,⟨ob,n,ne⟩,r,q,z,d⟩
end
structure Cls (K:W.Frag) (C:Addr):Prop where
 pg:PySem.W.plainGet K C Str.empty=true
 hd:PySem.W.hasDictIn K C=true
 po:PySem.W.plainOver K C=true
 sa:PySem.W.findIn K (.ref C) "__setattr__" = some (some (.builtin "object.__setattr__"))
theorem Cls.get {K:W.Frag} {C:Addr} (c:Cls K C) (f:Str):PySem.W.plainGet K C f=true:=c.pg
def zV (K:W.Frag) (C:Addr) (f:Str):Prop:=PySem.W.findIn K (.ref C) f=some none
theorem zV.taker {K:W.Frag} {C:Addr} {f:Str} (n:zV K C f):PySem.W.takerIn K C f=some none:=by
 unfold PySem.W.takerIn
 rw[show PySem.W.findIn K (.ref C) f=some none from n]
 rfl
structure Meth (K:W.Frag) (C:Addr) (m:Str) (f:Addr):Prop where
 at_:PySem.W.findIn K (.ref C) m=some (some (.ref f))
 fn:PySem.W.isFn K (.ref f)=true
 kp:PySem.W.keepIn K (.ref f)=true
section
variable {X:Cx} {pins:List (Addr × Obj)} {σ:St} {H:Hp} {s:Shared} {a C dx:Addr} {fs:List (Str × V)} {f:Str} {v:V} {A:Around} {E:Value->Shared->Prop}
theorem zmi {b:Bool} {Q:Value->Shared->Prop} (I:Inv X pins σ H s) (e:H a=some (.ins C dx fs)) (c:Cls X.K C) (n:zV X.K C f) (l:fs.lookup f=some v)
  (h:∀ u s',Inv X pins σ H s'->RelV v u->Q u s'):wpAny (model X.prog X.w) A (getAttr (.ref a) f b) Q E s:=by
 obtain ⟨mA,O,r,_,_,_⟩:=zkV I.hok e
 obtain ⟨u,hu,ru⟩:=zhG.some_of (v:=v) (o:=mA f) (by rw[<-l];exact r f)
 exact get_map I.kIn O (c.get f) c.hd n hu (zsN ru) (h u _ (I.tok _) ru)
theorem zdC {m:Str} {g:Addr} {pl:Sem Bool} {Q:Value × List Value->Shared->Prop} (I:Inv X pins σ H s) (e:H a=some (.ins C dx fs)) (c:Cls X.K C) (k:Meth X.K C m g) (l:fs.lookup m=none)
  (h:Q (.ref g,[.ref a]) s):wpAny (model X.prog X.w) A (getMethod (.ref a) m pl) Q E s:=by
 obtain ⟨mA,O,r,_,_,_⟩:=zkV I.hok e
 have hn:mA m=none:=zhG.none_of (by rw[<-l];exact r m)
 exact zuQ I.kIn O (c.get m) k.at_ k.fn hn h
theorem zmc {y:V} {u:Value} {Q:Unit->Shared->Prop} (I:Inv X pins σ H s) (e:H a=some (.ins C dx fs)) (c:Cls X.K C) (n:zV X.K C f) (hl:fs.length<1000) (ry:RelV y u)
  (h:∀ s',Inv X pins σ (upd H a (.ins C dx (zaM f y fs))) s'->Q () s'):wpAny (model X.prog X.w) A (setAttr (.ref a) f u) Q E s:=by
 obtain ⟨mA,O,r,wi,_,ho⟩:=zkV I.hok e
 have hz:(fs.map (·.1)).length<=sizeLine:=by rw[yab,sizeLine_eq];ac_rfl
 refine zwb I.kIn O c.sa c.po n.taker c.hd wi hz fun h' O' sb=>h _ ?_
 have hd:∃ o,h'.get? dx=some o:=let ⟨o,_,_,e',_⟩:=O'.ns;⟨o,e'⟩
 refine I.write (x:=a) (e:=dx) (by rw[e];exact True.intro) (.inr ho) (fun b q hb z=>(sb.2 b hb).trans z) hd ?_
 refine ⟨by rw[zr O.ne];exact ho,?_,O.ne,O'.obj,_,O'.ns,fun g=>?_,fun g hg=>?_⟩
 ·have:=zlj f y fs;ac_rfl
 ·show zhG ((zaM f y fs).lookup g) (if g=f then some u else mA g)
  rw[zli]
  by_cases q:g=f
  ·rw[if_pos q,if_pos q];exact ry
  ·rw[if_neg q,if_neg q];exact r g
 ·by_cases q:g=f
  ·rw[q];exact (zjV f y fs).1
  ·refine (zjV f y fs).2 g (wi g fun z=>hg ?_)
   show (if g=f then some u else mA g)=none
   rw[if_neg q];exact z
theorem Inv.made (I:Inv X pins σ H s):Inv X pins σ (upd (upd H s.heap.objs.size (.own (s.heap.objs.size+1))) (s.heap.objs.size+1) (.ins C s.heap.objs.size []))
  { s with heap:=(s.heap.push PySem.W.emptyDict).push (PySem.W.instObj C s.heap.objs.size) }:=by
 have e1:(s.heap.push PySem.W.emptyDict).get? s.heap.objs.size=some PySem.W.emptyDict:=ydr s.heap rfl
 have e2:((s.heap.push PySem.W.emptyDict).push (PySem.W.instObj C s.heap.objs.size)).get? (s.heap.objs.size+1)=some (PySem.W.instObj C s.heap.objs.size):=by
  have:=ydr (s.heap.push PySem.W.emptyDict) (o:=PySem.W.instObj C s.heap.objs.size) rfl
  rwa [ydv] at this
 have e3:(s.heap.push PySem.W.emptyDict).Ns s.heap.objs.size (fun _=>none):=⟨PySem.W.emptyDict,#[],_,e1,rfl,(fun e he=>absurd he (by simp)),fun _=>rfl⟩
 have I1:=I.laid (a:=s.heap.objs.size) (o:=.own (s.heap.objs.size+1)) (h':=s.heap.push PySem.W.emptyDict) (t':=s.toks) (fun b u q=>ydp _ q) (ycz _) ⟨_,e1⟩
 refine I1.laid (a:=s.heap.objs.size+1) (o:=.ins C s.heap.objs.size []) (t':=s.toks) (fun b u q=>ydp _ q) (Nat.le_of_eq (ydv _ _)) ?_
 have ne:s.heap.objs.size≠s.heap.objs.size+1:=yda (ydg _)
 refine ⟨by rw[zr ne,zg],ydb _,ne,e2,fun _=>none,(Heap.Ns1.of_empty e3).at fun o q=>ydp _ q,fun _=>True.intro,fun y hy=>absurd rfl hy⟩
theorem zrO {prog:Program} {w:World} {env:Env} {e:Expr} {f:Str} {pos:Pos} {s:Shared} {Q:Value->Shared->Prop} (hb:attributeBase e f env (eval e env)=eval e env)
  (h:wpAny (model prog w) A (eval e env) (fun o s₁=>wpAny (model prog w) A (getAttr o f true) Q E s₁) E s):wpAny (model prog w) A (eval (.Attribute e f pos) env) Q E s :=
 Attribute_any_ h (by rw[arm_eval_Attribute,hb])
end
def zxa (K:W.Frag) (ta:TE) (f:Str):TE:=fun σ H Q=>ta σ H fun x H1=>∃ a C dx fs v,x=.ref a/\H1 a=some (.ins C dx fs)/\Cls K C/\zV K C f/\fs.lookup f=some v/\Q v H1
def zyl (K:W.Frag) (ta tv:TE) (f:Str):TS:=fun D σ H=>tv σ H fun y H1=>ta σ H1 fun x H2=>∃ a C dx fs,x=.ref a/\H2 a=some (.ins C dx fs)/\Cls K C/\zV K C f/\fs.length<1000 /\
 D.nx σ (upd H2 a (.ins C dx (zaM f y fs)))
section
variable {X:Cx} {o e value:Expr} {f:Str} {pos pos' tpos:Pos} {ta tv:TE}
theorem zwE (he:PE X e ta) (hb:attributeBase e f X.env (eval e X.env)=eval e X.env):PE X (.Attribute e f pos) (zxa X.K ta f):=by
 intro pins s σ H Q I h
 refine zrO hb (thn (he pins s σ H _ I h) fun u s1 ⟨x,H1,I1,rx,a,C,dx,fs,v,ex,ea,c,n,l,q⟩=>?_)
 subst ex
 obtain rfl:u=Value.ref a:=rx
 exact zmi I1 ea c n l fun u' s2 I2 ru=>⟨v,H1,I2,ru,q⟩
theorem zks (ha:PE X o ta) (hv:PE X value tv) (hs:swapsWith value (some (.Attribute o f pos')) pos.line X.env=pure false):PS X (.Assign [.Attribute o f pos'] value pos) (zyl X.K ta tv f):=by
 intro pins s σ H D I h
 refine plainObj_wpAny_Assign_Attribute (thn (hv pins s σ H _ I h) fun u s1 ⟨y,H1,I1,ry,q⟩=>thn (ha pins s1 σ H1 _ I1 q) fun ov s2 ⟨x,H2,I2,rx,a,C,dx,fs,ex,ea,c,n,l,q2⟩=>?_) hs
 subst ex
 obtain rfl:ov=Value.ref a:=rx
 exact zmc I2 ea c n l ry fun s3 I3=>⟨σ,_,I3,q2⟩
end
section
variable {X:Cx} {pins:List (Addr × Obj)} {σ:St} {H:Hp} {s:Shared} {A:Around} {E:Value->Shared->Prop} {Q:Value->Shared->Prop} {c:Value} {b:Bool}
inductive zdg (K:W.Frag) (H:Hp):V->Value->Prop where
 | non:zdg K H .non (.type "NoneType")
 | bl (x:Bool):zdg K H (.bl x) (.type "bool")
 | int (i:Int):zdg K H (.int i) (.type "int")
 | str (x:Str):zdg K H (.str x) (.type "str")
 | flt (x:UInt64):zdg K H (.flt x) (.type "float")
 | lst {a:Addr} {xs:List V} (e:H a=some (.lst xs)):zdg K H (.ref a) (.type "list")
 | frz {a:Addr} {o:Obj} {xs:List V} (e:H a=some (.frz o (.lst xs))):zdg K H (.ref a) (.type "list")
 | tup {a:Addr} {xs:List V} (e:H a=some (.tup xs)):zdg K H (.ref a) (.type "tuple")
 | dK {a:Addr} {kvs:List (Key × V)} (e:H a=some (.dK kvs)):zdg K H (.ref a) (.type "dict")
 | ins {a C dx:Addr} {fs:List (Str × V)} (e:H a=some (.ins C dx fs)) (cl:Cls K C) (ha:PySem.W.findIn K (.ref C) "__class__" = some (some (.builtin "object.__class__")))
   (hn:PySem.W.specialIn K (.builtin "object.__class__") "__get__" = some (some (.builtin "getset_descriptor.__get__"))) (htk:PySem.W.takesIn K (.builtin "object.__class__")=some true)
   (hm:PySem.W.mroIn K C (.type "object")=some true):zdg K H (.ref a) (.ref C)
theorem znr {x:V} {u t:Value} (I:Inv X pins σ H s) (rx:RelV x u) (ty:zdg X.K H x t) (e:PySem.W.kitOne X.K t c=some b) (h:∀ tk,Q (.bool b) { s with toks:=tk }) :
  wpAny (model X.prog X.w) A (call (.builtin "isinstance") [u,c]) Q E s:=by
 cases ty with
 | non=>cases (show u=Value.none from rx);exact PySem.W.kia_one PySem.W.kitx_none I.kIn True.intro e (fun z=>nomatch z) h
 | bl y=>cases (show u=Value.bool y from rx);exact PySem.W.kia_one PySem.W.kitx_bool I.kIn True.intro e (fun z=>nomatch z) h
 | int i=>obtain ⟨t,q⟩:=(show ∃ t,u=Value.int i t from rx);cases q;exact PySem.W.kia_one PySem.W.kitx_int I.kIn True.intro e (fun z=>nomatch z) h
 | str y=>obtain ⟨t,q⟩:=(show ∃ t,u=Value.str y t from rx);cases q;exact PySem.W.kia_one PySem.W.kitx_str I.kIn True.intro e (fun z=>nomatch z) h
 | flt y=>obtain ⟨t,q⟩:=(show ∃ t,u=Value.float y t from rx);cases q;exact PySem.W.kia_one PySem.W.kitx_float I.kIn True.intro e (fun z=>nomatch z) h
 | @lst a xs ea =>
  cases (show u=Value.ref a from rx)
  obtain ⟨_,_,n,_,h1⟩:=(show zai X.prog X.w H s.heap a (.lst xs) from I.hok a _ ea)
  exact PySem.W.kia_one PySem.W.kitx_list I.kIn ⟨_,h1,rfl⟩ e (fun z=>nomatch z) h
 | @frz a ob xs ea =>
  cases (show u=Value.ref a from rx)
  obtain ⟨_,_,_,n,_,h1⟩:=(show zai X.prog X.w H s.heap a (.frz ob (.lst xs)) from I.hok a _ ea)
  exact PySem.W.kia_one PySem.W.kitx_list I.kIn ⟨_,h1,rfl⟩ e (fun z=>nomatch z) h
 | @tup a xs ea =>
  cases (show u=Value.ref a from rx)
  obtain ⟨_,_,_,p⟩:=(show zai X.prog X.w H s.heap a (.tup xs) from I.hok a _ ea)
  obtain ⟨o,h1,h2,_⟩:=p
  exact PySem.W.kia_one PySem.W.kitx_tuple I.kIn ⟨o,h1,h2⟩ e (fun z=>nomatch z) h
 | @dK a kvs ea =>
  cases (show u=Value.ref a from rx)
  obtain ⟨_,_,vs,_,p⟩:=(show zai X.prog X.w H s.heap a (.dK kvs) from I.hok a _ ea)
  obtain ⟨o,es,ep,h1,h2,_⟩:=p
  exact PySem.W.kia_one PySem.W.kitx_dict I.kIn ⟨o,h1,h2.1⟩ e (fun z=>nomatch z) h
 | @ins a C dx fs ea cl ha hn htk hm =>
  cases (show u=Value.ref a from rx)
  obtain ⟨mA,O,_⟩:=zkV I.hok ea
  obtain ⟨od,J,_⟩:=O.look
  exact PySem.W.kia_one (PySem.W.kitx_own (cl.get _) cl.hd ha hn htk hm) I.kIn J e (fun z=>nomatch z) h
end
structure Room (k:Nat) (A:Around):Prop where
 hd:A.handled=none
 dp:A.depth+3*k+5<recursionLimit
 un:A.units+16*k+200<cLine
theorem Room.mono {j k:Nat} {A:Around} (r:Room k A) (h:j<=k):Room j A:=⟨r.hd,by have:=r.dp;ac_rfl,by have:=r.un;ac_rfl⟩
theorem Room.deeper {k:Nat} {A:Around} (r:Room (k+1) A) (env:Env):Room k (A.deeper env) :=
 ⟨r.hd,by have:=r.dp;show A.depth+1+3*k+5<_;ac_rfl,by have:=r.un;show A.units+3+16*k+200<_;ac_rfl⟩
theorem zsy {A:Around} {C:Addr} {us:List Value} {kw:List (Str × Value)}:(A.under (.builtin "type.__call__" ⟨.ref C::us,kw⟩)).depth=A.depth+1:=by
 first | rfl | simp[Around.under,Code.weight,Code.isCreation,Code.isGuard,Code.isCaller,Code.frames,Code.isFrame,guardIds]
theorem zr4 {A:Around} {C:Addr} {us:List Value} {kw:List (Str × Value)}:(A.under (.builtin "type.__call__" ⟨.ref C::us,kw⟩)).units=A.units+1:=by
 first | rfl | simp[Around.under,Code.cUnits,Code.frames,Code.isFrame]
theorem Room.make {k:Nat} {A:Around} (r:Room (k+1) A) (C:Addr) (us:List Value) (kw:List (Str × Value)):Room k (A.under (.builtin "type.__call__" ⟨.ref C::us,kw⟩)) :=
 ⟨r.hd,by have:=r.dp;rw[zsy];ac_rfl,by have:=r.un;rw[zr4];ac_rfl⟩
theorem Room.depth {k:Nat} {A:Around} (r:Room k A):A.depth<recursionLimit:=by have:=r.dp;ac_rfl
theorem Room.units {k:Nat} {A:Around} (r:Room k A):A.units+64<cLine:=by have:=r.un;ac_rfl
def zne:TA:=fun _ H Q=>Q [] H
def zxP (ta:TE) (tr:TA):TA:=fun σ H Q=>ta σ H fun x H1=>tr σ H1 fun xs H2=>Q (x::xs) H2
section
variable {X:Cx} {e:Expr} {es:List Expr} {te:TE} {t:TA} {pos:Pos}
theorem zd:PA X [] zne:=fun _ _ _ _ H Q I h=>Calls.spliced_nil ⟨[],H,I,.nil,h⟩
theorem za (ha:PE X e te) (hr:PA X es t) (hs:starEach (e::es) X.env=(false,eval e X.env)::starEach es X.env:=by rfl):PA X (e::es) (zxP te t):=by
 intro pos pins s σ H Q I h
 rw[hs]
 show wpAny _ _ (spliced ((false,eval e X.env)::backTo pos (starEach es X.env))) _ _ s
 refine Calls.spliced_cons (thn (ha pins s σ H _ I h) fun u s1 ⟨x,H1,I1,r1,q1⟩=>?_)
 exact thn (hr pos pins s1 σ H1 _ I1 q1) fun us s2 ⟨xs,H2,I2,r2,q2⟩=>⟨x::xs,H2,I2,.cons r1 r2,q2⟩
def zyh (t:TA):TE:=fun σ H Q=>t σ H fun xs H1=>xs.length<=sizeLine/\∀ p,H1 p=none->Q (.ref p) (upd H1 p (.tup xs))
def zyr (t:TA):TE:=fun σ H Q=>t σ H fun xs H1=>xs.length<=sizeLine/\∀ p,H1 p=none->Q (.ref p) (upd H1 p (.lst xs))
theorem zap {x1} (h:PA X es t):PE X (.Tuple es x1 pos) (zyh t):=by
 intro pins s σ H Q I hq
 refine wpAny_Tuple_spliced (thn (h pos pins s σ H _ I hq) fun us s1 ⟨xs,H1,I1,r,z,q⟩=>⟨by rw[<-r.length];exact z,?_⟩)
 have hf:H1 s1.heap.objs.size=none:=I1.hok.fresh (ycz _)
 refine ⟨.ref s1.heap.objs.size,upd H1 s1.heap.objs.size (.tup xs),I1.laid (t':=s1.toks) (fun b u e=>ydp _ e) (ycz _) ?_,rfl,q _ hf⟩
 exact ⟨z,us,r,⟨_,ydr _ rfl,rfl,_,rfl⟩⟩
theorem zat (h:PA X es t):PE X (.List es pos) (zyr t):=by
 intro pins s σ H Q I hq
 refine wpAny_List_spliced (thn (h pos pins s σ H _ I hq) fun us s1 ⟨xs,H1,I1,r,z,q⟩=>⟨by rw[<-r.length];exact z,?_⟩)
 have hf:H1 s1.heap.objs.size=none:=I1.hok.fresh (ycz _)
 refine ⟨.ref s1.heap.objs.size,upd H1 s1.heap.objs.size (.lst xs),I1.laid (t':=s1.toks) (fun b u e=>ydp _ e) (ycz _) ?_,rfl,q _ hf⟩
 exact ⟨z,us,0,r,ydr _ rfl⟩
end
noncomputable abbrev Sp:=List V->Hp->VK->XK->Prop
noncomputable abbrev CXT:=List Env->Hp->Shared->XK->Value->Shared->Prop
structure zlS (P:Program) (w:World) (K:W.Frag) (mg:Str->Option Value) (base:Heap) (A:Around) (outer:List Env) (s:Shared) (H:Hp):Prop where
 frames:A.frames=some outer
 mod:Mod K mg base
 bs:∀ b o,base.get? b=some o->s.heap.get? b=some o/\H b=none
 bsz:base.objs.size<=s.heap.objs.size
 funs:s.heap.FunFrames base outer
 frf:∀ b∈frs outer,H b=none
 hok:HOk P w H s.heap
 bare:AllBare s.gens
def CE (outer:List Env) (P:Program) (w:World) (H:Hp) (s:Shared) (Q:VK) (u:Value) (s':Shared):Prop :=
 ∃ v H',s'.os=s.os/\AllBare s'.gens/\Un (frs outer) [] H H' s.heap s'.heap/\HOk P w H' s'.heap/\RelV v u/\Q v H'
def CR (CX:CXT) (outer:List Env) (P:Program) (w:World) (H:Hp) (s:Shared) (Q:VK) (E:XK) (r:Result) (s':Shared):Prop :=
 match r with
 | .ok (.ret u)=>CE outer P w H s Q u s'
 | .ok _=>False
 | .error e=>CX outer H s E e s'
structure zcn (P:Program) (w:World) (K:W.Frag) (mg:Str->Option Value) (base:Heap) (CX:CXT) (k:Nat) (f:Addr) (fd:FuncData) (ps:List Str) (sp:Sp):Prop where
 len:∀ vs H Q E,sp vs H Q E->vs.length=ps.length
 run:∀ (A:Around) (outer:List Env) (s:Shared) (H:Hp) (args:Args) (us:List Value) (vs:List V) (Q:VK) (E:XK),Room k A->zlS P w K mg base A outer s H->BindsTo s fd args (ps.zip us)->Vals vs us->sp vs H Q E ->
  codeAny (model P w) A (.call (.ref f) args) (CR CX outer P w H s Q E) s
theorem zlS.make {P:Program} {w:World} {K:W.Frag} {mg:Str->Option Value} {base:Heap} {A:Around} {outer:List Env} {s:Shared} {H:Hp} (e:zlS P w K mg base A outer s H) (C:Addr) (us:List Value) (kw:List (Str × Value)) :
  zlS P w K mg base (A.under (.builtin "type.__call__" ⟨.ref C::us,kw⟩)) outer s H:=⟨by first | exact e.frames | (simpa [Around.under,Code.envs,Code.isFrame,pushEnvs] using e.frames),e.mod,e.bs,e.bsz,e.funs,e.frf,e.hok,e.bare⟩
section
variable {X:Cx} {pins:List (Addr × Obj)} {σ:St} {H:Hp} {s s':Shared}
theorem Inv.zwy (I:Inv X pins σ H s):zlS X.prog X.w X.K X.mg X.base X.A X.stack s H :=
 ⟨I.ok.frames,I.ok.mod,I.bs,yde I.ok.bsz I.sz,I.stack,I.zkL,I.hok,I.bare⟩
theorem Inv.after {Q:VK} {u:Value} (I:Inv X pins σ H s) (h:CE X.stack X.prog X.w H s Q u s'):EP X pins σ Q u s':=by
 obtain ⟨v,H',os,bare,un,hok,r,q⟩:=h
 obtain ⟨hh,g,d,t,os'⟩:=s'
 obtain rfl:os'=s.os:=os
 exact ⟨v,H',I.call (h':=hh) (g':=g) (d':=d) (t':=t) (ch:=[]) un hok bare (fun b z=>absurd z (by simp)),r,q⟩
end
def zrS (sp:Sp) (dvs:List V) (E:XK) (t:TA):TE:=fun σ H Q=>t σ H fun vs H1=>sp (vs++dvs) H1 Q E
def zoo (C:Addr) (m:Str) (sp:Sp) (dvs:List V) (E:XK) (ta:TE) (t:TA):TE:=fun σ H Q=>ta σ H fun x H1=>∃ a dx fs,x=.ref a/\H1 a=some (.ins C dx fs)/\fs.lookup m=none /\
 t σ H1 fun vs H2=>sp (x::(vs++dvs)) H2 Q E
def zu9 (C:Addr) (sp:Sp) (dvs:List V) (E:XK) (t:TA):TE:=fun σ H Q=>t σ H fun vs H1=>∀ x dx,H1 x=none->H1 dx=none->dx≠x ->
 sp (.ref x::(vs++dvs)) (upd (upd H1 dx (.own x)) x (.ins C dx [])) (fun v H2=>v=.non/\Q (.ref x) H2) E
def Binds (K:W.Frag) (fd:FuncData) (ps:List Str) (ds:List Value):Prop :=
 ∀ (s:Shared) (us:List Value),K.In s.heap->(us++ds).length=ps.length->BindsTo s fd ⟨us,[]⟩ (ps.zip (us++ds))
theorem Binds.all {K:W.Frag} {fd:FuncData} {ps:List Str} (h:∀ us:List Value,us.length=ps.length->bindArgs fd ⟨us,[]⟩=pure (ps.zip us)):Binds K fd ps []:=fun s us _ hl=>by
 rw[yci] at hl ⊢
 exact .of_eq (h us hl)
def Passes (CX:CXT) (X:Cx) (E:XK):Prop:=∀ (pins:List (Addr × Obj)) (σ:St) (H:Hp) (s:Shared) (e:Value) (s':Shared),Inv X pins σ H s->CX X.stack H s E e s'->X.xe e s'
section
variable {X:Cx} {CX:CXT} {k:Nat} {f C:Addr} {fd:FuncData} {ps:List Str} {sp:Sp} {dvs:List V} {ds:List Value} {E:XK} {x m:Str} {p pos apos:Pos} {e o:Expr} {es:List Expr} {ta:TE} {t:TA}
theorem zgA {pins:List (Addr × Obj)} {σ:St} {H:Hp} {s:Shared} {Q:VK} {us:List Value} {vs:List V} (F:zcn X.prog X.w X.K X.mg X.base CX k f fd ps sp) (hr:Room k X.A) (hb:Binds X.K fd ps ds) (hd:Vals dvs ds) (hx:Passes CX X E)
  (I:Inv X pins σ H s) (r:Vals vs us) (h:sp (vs++dvs) H Q E):wpAny (model X.prog X.w) X.A (call (.ref f) us) (EP X pins σ Q) X.xe s:=by
 have r2:Vals (vs++dvs) (us++ds):=r.append hd
 have hl:(us++ds).length=ps.length:=by rw[<-r2.length];exact F.len _ _ _ _ h
 refine wpAny_call (codeAny_mono (F.run X.A X.stack s H ⟨us,[]⟩ (us++ds) (vs++dvs) Q E hr I.zwy (hb s us I.kIn hl) r2 h) fun r s' hq=>?_)
 cases r with
 | error e=>exact hx pins σ H s e s' I hq
 | ok fl =>
  cases fl with
  | ret u=>exact I.after hq
  | next=>exact False.elim hq
  | brk=>exact False.elim hq
  | cont=>exact False.elim hq
theorem zv2 (F:zcn X.prog X.w X.K X.mg X.base CX k f fd ps sp) (hr:Room k X.A) (hg:Gl X x) (hm:X.mg x=some (.ref f)) (hk:PySem.W.keepIn X.K (.ref f)=true) (hb:Binds X.K fd ps ds) (hd:Vals dvs ds) (hx:Passes CX X E)
  (ha:PA X (e::es) t) (hdb:(x == ("__debug__" : Str))=false:=by decide) (he:starEach (e::es) X.env=(false,eval e X.env)::starEach es X.env:=by rfl) (hpl:(backTo pos (starEach es X.env)).any (·.1)=false:=by rfl) :
  PE X (.Call (.Name x p) (e::es) [] pos) (zrS sp dvs E t):=by
 intro pins s σ H Q I h
 refine wpAny_Call_Name_kw (zkR I hg hm ?_ hdb)
 refine PySem.W.callWith_K (h₀:=X.base) I.ok.mod.kin hk (thn (ha pos pins s σ H _ I h) fun us s1 ⟨vs,H1,I1,r,q⟩=>⟨I1.kIn,?_⟩) he hpl
 exact zgA F hr hb hd hx I1 r q
theorem zwd {pl:Sem Bool} (he:PE X o ta) (c:Cls X.K C) (hm:Meth X.K C m f) (F:zcn X.prog X.w X.K X.mg X.base CX k f fd ps sp) (hr:Room k X.A) (hb:Binds X.K fd ps ds) (hd:Vals dvs ds) (hx:Passes CX X E) (ha:PA X (e::es) t)
  (hst:starEach (e::es) X.env=(false,eval e X.env)::starEach es X.env:=by rfl) (hpl:(backTo pos (starEach es X.env)).any (·.1)=false:=by rfl)
  (ht:eval (.Call (.Attribute o m apos) (e::es) [] pos) X.env=(do
   let ov <-eval o X.env
   standAt apos.atName
   let (f,first) <-holding [ov] (getMethod ov m pl)
   callWith pos f first (backTo pos (starEach (e::es) X.env)) (backToKw pos (keywordEach [] X.env))):=by rfl) :
  PE X (.Call (.Attribute o m apos) (e::es) [] pos) (zoo C m sp dvs E ta t):=by
 intro pins s σ H Q I h
 refine PySem.W.methodCall_KW (pl:=pl) (thn (he pins s σ H _ I h) fun u s1 ⟨x,H1,I1,rx,a,dx,fs,ex,ea,l,q⟩=>?_) ht
 subst ex
 obtain rfl:u=Value.ref a:=rx
 refine zdC I1 ea c hm l ?_
 refine PySem.W.callWith_K (first:=[.ref a]) (h₀:=X.base) I.ok.mod.kin hm.kp (thn (ha pos pins s1 σ H1 _ I1 q) fun us s2 ⟨vs,H2,I2,r,q2⟩=>⟨I2.kIn,?_⟩) hst hpl
 exact zgA (us:=.ref a::us) (vs:=.ref a::vs) F hr hb hd hx I2 (.cons rfl r) q2
theorem zu2 {pl:Sem Bool} (he:PE X o ta) (c:Cls X.K C) (hm:Meth X.K C m f) (F:zcn X.prog X.w X.K X.mg X.base CX k f fd ps sp) (hr:Room k X.A) (hb:Binds X.K fd ps ds) (hd:Vals dvs ds) (hx:Passes CX X E)
  (ht:eval (.Call (.Attribute o m apos) [] [] pos) X.env=(do
   let ov <-eval o X.env
   standAt apos.atName
   let (f,first) <-holding [ov] (getMethod ov m pl)
   callWith pos f first (backTo pos (starEach [] X.env)) (backToKw pos (keywordEach [] X.env))):=by rfl) :
  PE X (.Call (.Attribute o m apos) [] [] pos) (zoo C m sp dvs E ta zne):=by
 intro pins s σ H Q I h
 refine PySem.W.methodCall_KW (pl:=pl) (thn (he pins s σ H _ I h) fun u s1 ⟨x,H1,I1,rx,a,dx,fs,ex,ea,l,q⟩=>?_) ht
 subst ex
 obtain rfl:u=Value.ref a:=rx
 refine zdC I1 ea c hm l ?_
 exact PySem.W.callWith_K0 (first:=[.ref a]) I1.kIn hm.kp (zgA (us:=[.ref a]) (vs:=[.ref a]) F hr hb hd hx I1 (.cons rfl .nil) q)
structure Mk (K:W.Frag) (C f:Addr):Prop where
 makes:PySem.W.makesIn K C=true
 init:PySem.W.findIn K (.ref C) "__init__" = some (some (.ref f))
 fn:PySem.W.isFn K (.ref f)=true
 kp:PySem.W.keepIn K (.ref C)=true
theorem zuU {pins:List (Addr × Obj)} {σ:St} {H:Hp} {s:Shared} {Q:VK} {us:List Value} {vs:List V} (M:Mk X.K C f) (F:zcn X.prog X.w X.K X.mg X.base CX k f fd ps sp) (hr:Room (k+1) X.A) (hb:Binds X.K fd ps ds) (hd:Vals dvs ds)
  (hx:Passes CX X E) (I:Inv X pins σ H s) (r:Vals vs us)
  (h:∀ x dx,H x=none->H dx=none->dx≠x->sp (.ref x::(vs++dvs)) (upd (upd H dx (.own x)) x (.ins C dx [])) (fun v H2=>v=.non/\Q (.ref x) H2) E) :
  wpAny (model X.prog X.w) X.A (call (.ref C) us) (EP X pins σ Q) X.xe s:=by
 have hq:=h (s.heap.objs.size+1) s.heap.objs.size (I.hok.fresh (ydl _)) (I.hok.fresh (ycz _)) (yda (ydg _))
 have I2:=Inv.made (C:=C) I
 have r2:Vals (V.ref (s.heap.objs.size+1)::(vs++dvs)) (Value.ref (s.heap.objs.size+1)::(us++ds)):=.cons rfl (r.append hd)
 have hl:(Value.ref (s.heap.objs.size+1)::us++ds).length=ps.length:=by
  have e:=r2.length
  rw[F.len _ _ _ _ hq] at e
  exact e.symm
 refine wpAny_call (zuH (f:=f) I.kIn M.makes M.init (beq_iff_eq.mp M.fn) (codeAny_mono (F.run _ X.stack _ _ ⟨Value.ref (s.heap.objs.size+1)::us,[]⟩ (Value.ref (s.heap.objs.size+1)::(us++ds)) _ _ E (hr.make C us [])
  (I2.zwy.make C us []) (hb _ (Value.ref (s.heap.objs.size+1)::us) I2.kIn hl) r2 hq) fun r s' hq'=>?_))
 cases r with
 | error e=>exact hx pins σ _ _ e s' I2 hq'
 | ok fl =>
  cases fl with
  | ret u =>
   obtain ⟨v,H',I3,rv,ev,q3⟩:=I2.after hq'
   subst ev
   exact ⟨rv,⟨V.ref (s.heap.objs.size+1),H',I3,rfl,q3⟩⟩
  | next=>exact False.elim hq'
  | brk=>exact False.elim hq'
  | cont=>exact False.elim hq'
theorem zvK (M:Mk X.K C f) (F:zcn X.prog X.w X.K X.mg X.base CX k f fd ps sp) (hr:Room (k+1) X.A) (hg:Gl X x) (hm:X.mg x=some (.ref C)) (hb:Binds X.K fd ps ds) (hd:Vals dvs ds) (hx:Passes CX X E)
  (ha:PA X (e::es) t) (hdb:(x == ("__debug__" : Str))=false:=by decide) (he:starEach (e::es) X.env=(false,eval e X.env)::starEach es X.env:=by rfl) (hpl:(backTo pos (starEach es X.env)).any (·.1)=false:=by rfl) :
  PE X (.Call (.Name x p) (e::es) [] pos) (zu9 C sp dvs E t):=by
 intro pins s σ H Q I h
 refine wpAny_Call_Name_kw (zkR I hg hm ?_ hdb)
 refine PySem.W.callWith_K (h₀:=X.base) I.ok.mod.kin M.kp (thn (ha pos pins s σ H _ I h) fun us s1 ⟨vs,H1,I1,r,q⟩=>⟨I1.kIn,?_⟩) he hpl
 exact zuU M F hr hb hd hx I1 r q
end
section
variable {X:Cx} {CX:CXT} {k:Nat} {f C:Addr} {fd:FuncData} {ps ks:List Str} {sp:Sp} {E:XK} {x m:Str} {p pos apos kpos:Pos} {e o:Expr} {es:List Expr} {kws:List Keyword} {te ta:TE} {t tk:TA} {nm:Option Str}
variable {g:List Value->List Value->List Value} {gV:List V->List V->List V}
end
structure zj (N P:List Str) (sc:Scope):Prop where
 kind:sc.kind=.function
 co:sc.isCoroutine=false
 gen:sc.isGenerator=false
 nd:N.Nodup
 pre:N.take P.length=P
 par:∀ x∈P,sc.names.lookup x=some .local\/sc.names.lookup x=some .cell
 nofree:∀ y∈sc.names,y.2≠.free
theorem znH {kindOf:Str->Option NameKind} {x:Str}:∀ {binds:List (Str × Value)} {m:Str->Option Value},(∀ v,(x,v) ∉ binds)->bindL kindOf binds m x=m x
 | [],_,_=>rfl
 | (n,v)::r,m,h=>by
  unfold bindL
  rw[znH fun w hw=>h w (yam _ hw)]
  split
  ·have:x≠n:=by rintro rfl;exact h v yas
   simp[this]
  ·rfl
theorem znp {kindOf:Str->Option NameKind} {x:Str}:∀ {binds:List (Str × Value)} {m:Str->Option Value},(∀ v,(x,v) ∉ binds)->bindC kindOf binds m x=m x
 | [],_,_=>rfl
 | (n,v)::r,m,h=>by
  unfold bindC
  rw[znp fun w hw=>h w (yam _ hw)]
  split
  ·rfl
  ·have:x≠n:=by rintro rfl;exact h v yas
   simp[this]
theorem znE {kindOf:Str->Option NameKind} {x:Str} {v:Value}:∀ {P:List Str} {vs:List Value} {i:Nat} {m:Str->Option Value},P.Nodup->P[i]?=some x->vs[i]?=some v->kindOf x=some .local ->
  bindL kindOf (P.zip vs) m x=some v
 | [],_,_,_,_,h,_,_=>by simp at h
 | _::_,[],_,_,_,_,h,_=>by simp at h
 | p::P,w::vs,0,m,nd,h1,h2,hk=>by
  simp at h1 h2;subst h1;subst h2
  show bindL kindOf ((p,w)::P.zip vs) m p=_
  unfold bindL
  rw[znH fun v hv=>(ybj.mp nd).1 (List.of_mem_zip hv).1,if_pos hk]
  simp
 | p::P,w::vs,i+1,m,nd,h1,h2,hk=>by
  show bindL kindOf ((p,w)::P.zip vs) m x=_
  unfold bindL
  exact znE (i:=i) (ybj.mp nd).2 (by simpa using h1) (by simpa using h2) hk
theorem znq {kindOf:Str->Option NameKind} {x:Str} {v:Value}:∀ {P:List Str} {vs:List Value} {i:Nat} {m:Str->Option Value},P.Nodup->P[i]?=some x->vs[i]?=some v->kindOf x≠some .local ->
  bindC kindOf (P.zip vs) m x=some v
 | [],_,_,_,_,h,_,_=>by simp at h
 | _::_,[],_,_,_,_,h,_=>by simp at h
 | p::P,w::vs,0,m,nd,h1,h2,hk=>by
  simp at h1 h2;subst h1;subst h2
  show bindC kindOf ((p,w)::P.zip vs) m p=_
  unfold bindC
  rw[znp fun v hv=>(ybj.mp nd).1 (List.of_mem_zip hv).1,if_neg hk]
  simp
 | p::P,w::vs,i+1,m,nd,h1,h2,hk=>by
  show bindC kindOf ((p,w)::P.zip vs) m x=_
  unfold bindC
  exact znq (i:=i) (ybj.mp nd).2 (by simpa using h1) (by simpa using h2) hk
noncomputable def start (N:List Str) (vs:List V):St:=vs.map some++List.replicate (N.length-vs.length) none
noncomputable def zgp (CX:CXT) (P:Program) (w:World) (K:W.Frag) (mg:Str->Option Value) (base:Heap) (N:List Str) (qual:Str) (scope:Scope) (f:Addr) (cd:Value) (A:Around) (outer:List Env) (s:Shared) (H:Hp) (E:XK):Cx where
 prog:=P
 w:=w
 K:=K
 mg:=mg
 base:=base
 A:=A.deeper (envOfC qual scope s.heap.objs.size f cd)
 N:=N
 s₀:=s
 H₀:=H
 env:=envOfC qual scope s.heap.objs.size f cd
 outer:=outer
 stack:=envOfC qual scope s.heap.objs.size f cd::outer
 ex:=[]
 calm:=true
 fn:=fun _=>true
 pn:=[]
 xe:=fun e s'=>wpAny (model P w) (A.deeper (envOfC qual scope s.heap.objs.size f cd)) (leaving (envOfC qual scope s.heap.objs.size f cd) e) (fun _ s''=>CX outer H s E e s'') (fun e' s''=>CX outer H s E e' s'') s'
theorem zpD {sc:Scope} {n:Nat} {x:Str} (h:sc.names.lookup x=some .cell):∃ c,(cellsFrom n sc.names []).lookup x=some c:=by
 have q:=PySem.W.cellsFrom_some sc.names n [] (.inl h)
 exact Option.isSome_iff_exists.mp q
theorem ztk {CX:CXT} {P:Program} {w:World} {K:W.Frag} {mg:Str->Option Value} {base:Heap} {N ps:List Str} {qual:Str} {scope:Scope} {f:Addr} {cd:Value} {A:Around} {outer:List Env} {s s1:Shared} {H:Hp} {E:XK} {us:List Value} {vs:List V}
  (S:zj N ps scope) (hd:A.handled=none) (e0:zlS P w K mg base A outer s H) (hl:vs.length=ps.length) (r:Vals vs us)
  (x:InCallC s s.heap.objs.size (bindL (envOfC qual scope s.heap.objs.size f cd).kindOf (ps.zip us) fun _=>none) (cellsFrom (s.heap.objs.size+1) scope.names []) (bindC (envOfC qual scope s.heap.objs.size f cd).kindOf (ps.zip us) fun _=>none) s1) :
  Inv (zgp CX P w K mg base N qual scope f cd A outer s H E) [] (start N vs) H s1:=by
 have hpl:ps.length<=N.length:=by have:=congrArg List.length S.pre;rw[ybe] at this;ac_rfl
 obtain ⟨h1,tk,rfl,hk⟩:=x.done
 have noA:∀ b:Addr,b ∉ (zgp CX P w K mg base N qual scope f cd A outer s H E).ex:=fun b z=>absurd (show b∈([]:List Addr) from z) (by simp)
 refine ⟨⟨e0.mod,S.kind,rfl,rfl,ycz _,fun y z c h1 h2=>?_,fun y hy=>?_,fun y c _ h=>?_,fun _=>hd,Around.frames_deeper e0.frames,.inr ⟨rfl,rfl⟩,fun b z=>absurd z (noA b),e0.bs,e0.bsz,fun b _ _=>noA b,fun b z=>absurd z (noA b),e0.funs,e0.frf⟩,
  rfl,e0.bare,Un.kept hk,⟨_,x.toInCall.ns,fun i y v h1 h2 h3=>?_⟩,fun y c h=>⟨_,x.cell y c h⟩,e0.hok.fresh (ycz _),fun y c h=>?_,fun p hp=>absurd (show p∈([]:List (Addr × Obj)) from hp) (by simp),e0.hok.kept hk,?_⟩
 ·exact name_of_addr x.apart (PySem.mem_of_lookup h1) (PySem.mem_of_lookup h2)
 ·have hy:scope.names.lookup y=some .cell\/scope.names.lookup y=some .free:=hy
  rcases hy with hy | hy
  ·exact zpD hy
  ·exact absurd rfl (S.nofree _ (PySem.mem_of_lookup hy))
 ·exact ydm (x.above y c (PySem.mem_of_lookup h))
 ·have hi:i<vs.length:=by
   unfold start at h2
   by_cases hi:i<vs.length
   ·exact hi
   ·rw[ybh (by simpa using hi)] at h2
    rw[List.getElem?_replicate] at h2
    split at h2 <;> cases h2
  have ha:vs[i]?=some v:=by
   unfold start at h2
   rw[ybk (by simpa using hi),yaj] at h2
   cases e:vs[i]? with
   | none=>rw[e] at h2;cases h2
   | some a=>rw[e] at h2;cases h2;rfl
  obtain ⟨u,hu,rv⟩:=r.get ha
  have hp:ps[i]?=some y:=by
   rw[<-S.pre,List.getElem?_take_of_lt (by ac_rfl)];exact h1
  have ndP:ps.Nodup:=by rw[<-S.pre];exact S.nd.sublist (List.take_sublist _ _)
  refine ⟨u,rv,?_⟩
  rcases S.par y (yae hp) with k | k
  ·exact .inl ⟨k,znE ndP hp hu k⟩
  ·obtain ⟨c,e⟩:=zpD (n:=s.heap.objs.size+1) k
   refine .inr ⟨.inl k,c,e,?_⟩
   have q:=x.cell y c e
   rw[znq ndP hp hu (by show scope.names.lookup y≠_;rw[k];decide)] at q
   exact q
 ·exact e0.hok.fresh (ydm (x.above y c (PySem.mem_of_lookup h)))
 ·unfold start
  show _=N.length
  rw[yai,yab,List.length_replicate]
  ac_rfl
theorem zxq {CX:CXT} {P:Program} {w:World} {K:W.Frag} {mg:Str->Option Value} {base:Heap} {k:Nat} {f:Addr} {name qual:Str} {params:Arguments} {body:List Stmt} {scope:Scope} {dV kV doc pm cdv ct oc:Value} {an od:Option Addr}
  {osl:Array (Option Value)} {N ps:List Str} {sp:Sp} (lk:K.lookup f=some ⟨oc,od,.func (PySem.W.fnOf name qual params body scope dV kV doc pm an cdv ct),osl⟩) (hcd:PySem.W.codeIn K cdv qual=true) (S:zj N ps scope)
  (len:∀ vs H Q E,sp vs H Q E->vs.length=ps.length)
  (hbody:∀ (A:Around) (outer:List Env) (s:Shared) (H:Hp) (vs:List V) (Q:VK) (E:XK),Room k (A.deeper (envOfC qual scope s.heap.objs.size f cdv))->sp vs H Q E ->
   ∃ t,PSs (zgp CX P w K mg base N qual scope f cdv A outer s H E) body t/\t { nx:=fun _ H'=>Q .non H',rt:=Q } (start N vs) H) :
  zcn P w K mg base CX (k+1) f (PySem.W.fnOf name qual params body scope dV kV doc pm an cdv ct) ps sp:=by
 refine ⟨len,fun A outer s H args us vs Q E hr e0 hb r hsp=>?_⟩
 have hl:=len _ _ _ _ hsp
 have KX:K.In s.heap:=e0.mod.kin.keeps fun b o e=>(e0.bs b o e).1
 have lim:s.heap.NoLimit:=e0.mod.nolimit.keeps fun b o e=>(e0.bs b o e).1
 have hkind:∀ y∈ps.zip us,scope.names.lookup y.1=some .local\/(scope.names.lookup y.1=some .cell/\((cellsFrom (s.heap.objs.size+1) scope.names []).lookup y.1).isSome=true):=fun ⟨n,v⟩ hy=>by
  rcases S.par n (List.of_mem_zip hy).1 with q | q
  ·exact .inl q
  ·exact .inr ⟨q,PySem.W.cellsFrom_some _ _ _ (.inl q)⟩
 refine codeAny_call_function hr.depth (KX _ _ lk) rfl S.co S.gen rfl (PySem.W.codeRec_of KX hcd) (hb _ _ _ _ ?_)
 refine wpAny_newFunctionEnv_cells S.kind hkind fun env he s1 x=>?_
 subst he
 refine ⟨lim.keeps x.toInCall.keep,codeAny_func ?_⟩
 obtain ⟨t,ht,hq⟩:=hbody A outer s H vs Q E (hr.deeper _) hsp
 have I:Inv (zgp CX P w K mg base N qual scope f cdv A outer s H E) [] (start N vs) H s1:=ztk S hr.hd e0 hl r x
 refine wpAny_mono (ht [] s1 (start N vs) H _ I hq) (fun fl s' hs=>?_) fun e s' hs=>hs
 have fin:∀ {σ':St} {H':Hp} {v:V} {u:Value},Inv (zgp CX P w K mg base N qual scope f cdv A outer s H E) [] σ' H' s'->RelV v u->Q v H'->CE outer P w H s Q u s' :=
  fun {σ' H' v u} J rv q=>⟨v,H',J.os,J.bare,J.base,J.hok,rv,q⟩
 cases fl with
 | ret u =>
  obtain ⟨v,σ',H',J,rv,q⟩:=hs
  exact fin J rv q
 | next =>
  obtain ⟨σ',H',J,q⟩:=hs
  exact fin (v:=V.non) (u:=Value.none) J rfl q
 | brk =>
  obtain ⟨_,_,_,q⟩:=hs
  exact False.elim q
 | cont =>
  obtain ⟨_,_,_,q⟩:=hs
  exact False.elim q
section
variable {X:Cx} {x:Str} {p pos:Pos} {e:Expr} {es:List Expr} {t:TA} {id T:String} {r:List V->Hp->VK->Prop}
def tCB (r:List V->Hp->VK->Prop) (t:TA):TE:=fun σ H Q=>t σ H fun vs H1=>r vs H1 Q
theorem zx (hc:zbh X (.builtin id) r) (hg:Gl X x) (hm:X.mg x=none) (hv:bootBuiltins x=some (.builtin id)) (ha:PA X (e::es) t) (hn:x ≠ "__name__" := by decide) (hdb:(x == ("__debug__" : Str))=false:=by decide)
  (he:starEach (e::es) X.env=(false,eval e X.env)::starEach es X.env:=by rfl) (hpl:(backTo pos (starEach es X.env)).any (·.1)=false:=by rfl):PE X (.Call (.Name x p) (e::es) [] pos) (tCB r t):=by
 intro pins s σ H Q I h
 refine wpAny_Call_Name_kw (zjO I hg hm hv ?_ hn hdb)
 exact PyProof.Rows.callWith_builtin1 (thn (ha pos pins s σ H _ I h) fun us s1 ⟨vs,H1,I1,r1,q1⟩=>hc pins s1 σ H1 vs us Q I1 r1 q1) he hpl
theorem zT (hc:zbh X (.type T) r) (hg:Gl X x) (hm:X.mg x=none) (hv:bootBuiltins x=some (.type T)) (ha:PA X (e::es) t) (hn:x ≠ "__name__" := by decide) (hdb:(x == ("__debug__" : Str))=false:=by decide)
  (he:starEach (e::es) X.env=(false,eval e X.env)::starEach es X.env:=by rfl) (hpl:(backTo pos (starEach es X.env)).any (·.1)=false:=by rfl):PE X (.Call (.Name x p) (e::es) [] pos) (tCB r t):=by
 intro pins s σ H Q I h
 refine wpAny_Call_Name_kw (zjO I hg hm hv ?_ hn hdb)
 exact PyProof.Rows.callWith_type1 (thn (ha pos pins s σ H _ I h) fun us s1 ⟨vs,H1,I1,r1,q1⟩=>hc pins s1 σ H1 vs us Q I1 r1 q1) he hpl
end
end L2
namespace HT
open PySem PyProof.Rows
section
open PySem.SeqAt
open PySem.AutoSeq1 (wpAny_loadPart')
open PySem.MeetsSeq PySem.MeetsSeq2 PySem.MeetsSeq3
end
section
variable {prog:Program} {w:World} {A:Around} {E:Value->Shared->Prop} {s:Shared}
noncomputable def sIx (n d:Nat):Option Int->Nat
 | none=>d
 | some v=>if v<0 then (v+(n:Int)).toNat else min v.toNat n
end
end HT
namespace L2
open PySem PySem.Spec PyProof.Rows
noncomputable abbrev TO:=St->Hp->(Option Int->Hp->Prop)->Prop
def PO (X:Cx) (e:Option Expr) (t:TO):Prop :=
 ∀ (pins:List (Addr × Obj)) (s:Shared) (σ:St) (H:Hp) (Q:Option Int->Hp->Prop),Inv X pins σ H s->t σ H Q ->
  wpAny (model X.prog X.w) X.A (evalPart e X.env) (fun u s'=>∃ o H',Inv X pins σ H' s'/\IsPart u o/\Q o H') X.xe s
def zwe:TO:=fun _ H Q=>Q none H
def zxo (t:TE):TO:=fun σ H Q=>t σ H fun x H1=>∃ i,x=.int i/\Q (some i) H1
section
variable {X:Cx} {e:Expr} {te:TE} {lo hi:Option Expr} {tl th:TO} {pos p2:Pos}
theorem zkW:PO X none zwe:=by
 intro pins s σ H Q I h
 rw[evalPart_none]
 exact wpAny_pure ⟨none,H,I,.none,h⟩
theorem ziG (h:PE X e te):PO X (some e) (zxo te):=by
 intro pins s σ H Q I hw
 rw[evalPart_some]
 refine thn (h pins s σ H _ I hw) fun u s1 ⟨x,H1,I1,r1,q1⟩=>?_
 obtain ⟨i,rfl,q⟩:=q1
 obtain ⟨t,rfl⟩:=r1
 exact ⟨some i,H1,I1,.int i t,q⟩
def SlR (X:Cx) (r:V->Option Int->Option Int->Hp->VK->Prop):Prop :=
 ∀ (pins:List (Addr × Obj)) (s:Shared) (σ:St) (H:Hp) (x:V) (v vl vu:Value) (lo hi:Option Int) (sl:Addr) (Q:VK),Inv X pins σ H s->RelV x v->s.heap.IsSliceOf sl vl vu .none->IsPart vl lo->IsPart vu hi->r x lo hi H Q ->
  ∃ T id,typeLookup (.type T) "__getitem__" = pure (some (.builtin id))/\s.TypeIs v T/\wpAny (model X.prog X.w) X.A (getItem v (.ref sl)) (EP X pins σ Q) X.xe s
def tSl (r:V->Option Int->Option Int->Hp->VK->Prop) (te:TE) (tl th:TO):TE:=fun σ H Q=>te σ H fun x H1=>tl σ H1 fun l H2=>th σ H2 fun u H3=>r x l u H3 Q
theorem zlQ {r:V->Option Int->Option Int->Hp->VK->Prop} (hr:SlR X r) (he:PE X e te) (hl:PO X lo tl) (hu:PO X hi th):PE X (.Subscript e (.Slice lo hi none p2) pos) (tSl r te tl th):=by
 intro pins s σ H Q I h
 refine Subscript_ (thn (he pins s σ H _ I h) fun v s1 ⟨x,H1,I1,r1,q1⟩=>?_)
 refine wpAny_Slice (thn (hl pins s1 σ H1 _ I1 q1) fun vl s2 ⟨l,H2,I2,pl,q2⟩=>thn (hu pins s2 σ H2 _ I2 q2) fun vu s3 ⟨u,H3,I3,pu,q3⟩=>?_)
 rw[evalPart_none]
 refine wpAny_pure ?_
 have I4:Inv X pins σ H3 { s3 with heap:=s3.heap.push { cls:=.type "slice", data:=.fields #[vl,vu,.none] } }:=I3.kept (t':=s3.toks) fun b ob q=>ydp _ q
 obtain ⟨T,id,hT,ht,hg⟩:=hr pins { s3 with heap:=s3.heap.push { cls:=.type "slice", data:=.fields #[vl,vu,.none] } } σ H3 x v vl vu l u s3.heap.objs.size Q I4 r1 (Heap.IsSliceOf.new ..) pl pu q3
 show wpAny (model X.prog X.w) X.A (subscriptTail e (.Slice lo hi none p2) v (.ref s3.heap.objs.size)) (EP X pins σ Q) X.xe { s3 with heap:=s3.heap.push { cls:=.type "slice", data:=.fields #[vl,vu,.none] } }
 exact tail_any (ops:=[.ref s3.heap.objs.size,v]) ht hT hg (by with_unfolding_all rfl)
noncomputable def zhX (xs:List V) (lo hi:Option Int):List V:=(xs.drop (HT.sIx xs.length 0 lo)).take (HT.sIx xs.length xs.length hi-HT.sIx xs.length 0 lo)
theorem zrb (xs:List V) (lo hi:Option Int):(zhX xs lo hi).length<=xs.length:=by
 unfold zhX
 rw[ybe,yct]
 ac_rfl
end
noncomputable def ixN (n:Nat) (i:Int):Option Nat:=if 0<=i then (if i<n then some i.toNat else none) else if -(n:Int)<=i then some (i+n).toNat else none
noncomputable def atI {α:Type} (xs:List α) (i:Int):Option α:=(ixN xs.length i).bind fun j=>xs[j]?
theorem zrj {n:Nat} {i:Int} {j:Nat} (h:ixN n i=some j):seqIndex? i n=some j/\j<n /\ -(n:Int)<=i/\i<n:=by
 unfold ixN at h
 by_cases h0:0<=i
 ·rw[if_pos h0] at h
  by_cases h1:i<n
  ·rw[if_pos h1] at h
   have e:i.toNat=j:=Option.some.inj h
   exact ⟨by rw[seqIndex_of h0 h1,e],by ac_rfl,by ac_rfl,h1⟩
  ·rw[if_neg h1] at h;cases h
 ·rw[if_neg h0] at h
  by_cases h1:-(n:Int)<=i
  ·rw[if_pos h1] at h
   have e:(i+n).toNat=j:=Option.some.inj h
   exact ⟨by rw[seqIndex_neg (by ac_rfl) h1,e],by ac_rfl,h1,by ac_rfl⟩
  ·rw[if_neg h1] at h;cases h
theorem zry {α:Type} {xs:List α} {i:Int} {v:α} (h:atI xs i=some v):∃ j,seqIndex? i xs.length=some j/\xs[j]?=some v/\j<xs.length /\ -(xs.length:Int)<=i/\i<xs.length:=by
 unfold atI at h
 cases e:ixN xs.length i with
 | none=>rw[e] at h;cases h
 | some j =>
  rw[e] at h
  obtain ⟨h1,h2,h3,h4⟩:=zrj e
  exact ⟨j,h1,h,h2,h3,h4⟩
theorem zaw {α:Type} {xs:List α} {j:Nat} {v:α} (h:xs[j]?=some v):atI xs (j:Int)=some v:=by
 have hj:j<xs.length:=(yac.mp h).1
 have e:ixN xs.length (j:Int)=some j:=by
  unfold ixN
  rw[if_pos (by ac_rfl),if_pos (by ac_rfl)];simp
 unfold atI;rw[e];exact h
def zvL (b:Expr):Prop:=∀ o i,subscripted b false o i=operate [o,i] (getItem o i)
def IxR (X:Cx) (r:R2):Prop :=
 ∀ (value slice:Expr) (pins:List (Addr × Obj)) (s:Shared) (σ:St) (H:Hp) (x y:V) (v u:Value) (Q:VK),Inv X pins σ H s->RelV x v->RelV y u->r x y H Q ->
  subscripted slice false v u=operate [v,u] (getItem v u)->wpAny (model X.prog X.w) X.A (subscriptTail value slice v u) (EP X pins σ Q) X.xe s
def MtR (X:Cx) (id:String) (r:V->List V->Hp->VK->Prop):Prop :=
 ∀ (pins:List (Addr × Obj)) (s:Shared) (σ:St) (H:Hp) (x:V) (xs:List V) (v:Value) (us:List Value) (Q:VK),Inv X pins σ H s->RelV x v->Vals xs us->r x xs H Q ->
  wpAny (model X.prog X.w) X.A (call (.builtin id) (v::us)) (EP X pins σ Q) X.xe s
section
variable {X:Cx} {a b:Expr} {ta tb:TE} {pos:Pos}
theorem zq {r:R2} (hr:IxR X r) (ha:PE X a ta) (hb:PE X b tb) (hs:zvL b):PE X (.Subscript a b pos) (tOp r ta tb):=by
 intro pins s σ H Q I h
 exact Subscript_ (zu6 ha hb I h fun v u s2 x y H2 I2 rx ry q=>hr a b pins s2 σ H2 x y v u Q I2 rx ry q (hs _ _))
def zxc (K:W.Frag):R2:=fun x y H Q=>∃ p xs i v,x=.ref p/\y=.int i/\SqL K H p xs/\atI xs i=some v/\Q v H
def zw8 (K:W.Frag):R2:=fun x y H Q=>∃ p xs i v,x=.ref p/\y=.int i/\SqT K H p xs/\atI xs i=some v/\Q v H
theorem zB:IxR X (zxc X.K):=by
 intro value slice pins s σ H x y v u Q I rx ry h hs
 obtain ⟨p,xs,i,z,rfl,rfl,hq,he,q⟩:=h
 cases rx
 obtain ⟨t,rfl⟩:=ry
 obtain ⟨its,r,pl,hz⟩:=I.list hq
 obtain ⟨j,h1,h2,h3,h4,h5⟩:=zry he
 obtain ⟨w,ew,rw'⟩:=r.get h2
 have hl:=r.length
 have hn:=zlY
 have fin:EP X pins σ Q w s:=⟨z,H,I,rw',q⟩
 by_cases h0:0<=i
 ·have hj:i.toNat=j:=by
   rw[seqIndex_of h0 h5] at h1
   exact Option.some.inj h1
  exact item_listR pl.isList h0 (by ac_rfl) (by rw[hj];simpa using ew) fin hs
 ·have hj:(i+(its.toArray.size:Int)).toNat=j:=by
   rw[seqIndex_neg (by ac_rfl) h4] at h1
   rw[yao,<-hl]
   exact Option.some.inj h1
  exact subscriptTail_builtinR (x:=w) pl.isList.typeIs slot_list_getitem.lookup
   (wpAny_getItem_list_neg (Q:=fun r s'=>r=w/\EP X pins σ Q r s') pl.isList (by ac_rfl) (by rw[yao] <;> ac_rfl) (by ac_rfl) (by rw[hj];simpa using ew) ⟨rfl,fin⟩) hs
theorem zah:IxR X (zw8 X.K):=by
 intro value slice pins s σ H x y v u Q I rx ry h hs
 obtain ⟨p,xs,i,z,rfl,rfl,hq,he,q⟩:=h
 cases rx
 obtain ⟨t,rfl⟩:=ry
 obtain ⟨its,r,pl,hz⟩:=I.tuple hq
 obtain ⟨j,h1,h2,h3,h4,h5⟩:=zry he
 obtain ⟨w,ew,rw'⟩:=r.get h2
 have hl:=r.length
 have hn:=zlY
 have fin:EP X pins σ Q w s:=⟨z,H,I,rw',q⟩
 exact subscriptTail_builtinR (x:=w) pl.typeIs slot_tuple_getitem.lookup
  (getItem_tuple (j:=j) (Q:=fun r s'=>r=w/\EP X pins σ Q r s') pl (by ac_rfl) (by ac_rfl) (by rw[yao,<-hl];exact h1) (by simpa using ew) ⟨rfl,fin⟩) hs
theorem zr1 (its:List Value) (n j:Nat) (u:Value):Obj.mapSeq (·.setIfInBounds j u) { cls:=.type "list", data:=.seq its.toArray n }={ cls:=.type "list", data:=.seq (its.set j u).toArray n }:=by
 simp[Obj.mapSeq]
theorem Inv.lst {pins:List (Addr × Obj)} {σ:St} {H:Hp} {s:Shared} {p:Addr} {xs:List V} (I:Inv X pins σ H s) (h:H p=some (.lst xs)) :
  ∃ (its:List Value) (n:Nat),Vals xs its/\s.heap.get? p=some { cls:=.type "list", data:=.seq its.toArray n }/\xs.length<=sizeLine:=by
 obtain ⟨z,its,n,r,e⟩:=I.hok p _ h
 exact ⟨its,n,r,e,z⟩
theorem Inv.zwU {pins:List (Addr × Obj)} {σ:St} {H:Hp} {s:Shared} {p:Addr} {xs ys:List V} {its its':List Value} {n n':Nat} {f:Obj->Obj} (I:Inv X pins σ H s) (h:H p=some (.lst xs))
  (ho:s.heap.get? p=some { cls:=.type "list", data:=.seq its.toArray n }) (hf:f { cls:=.type "list", data:=.seq its.toArray n }={ cls:=.type "list", data:=.seq its'.toArray n' }) (r:Vals ys its') (hz:ys.length<=sizeLine) (t:Nat) :
  Inv X pins σ (upd H p (.lst ys)) { s with heap:=s.heap.update p f,toks:=t }:=by
 have e:(s.heap.update p f).get? p=some { cls:=.type "list", data:=.seq its'.toArray n' }:=by
  rw[ydu f ho (by rw[hf] <;> rfl),hf]
 refine I.write (x:=p) (e:=p) (by rw[h];trivial) (.inl rfl) (fun b u hb q=>(yds _ _ (Ne.symm hb)).trans q) ⟨_,e⟩ ?_
 exact ⟨hz,its',n',r,e⟩
noncomputable def zxm:V->V->V->Hp->(Hp->Prop)->Prop:=fun o i v H Q=>∃ p xs k j,o=.ref p/\i=.int k/\H p=some (.lst xs)/\ixN xs.length k=some j/\Q (upd H p (.lst (xs.set j v)))
theorem set_list:PSet X zxm:=by
 intro pins s σ H o i v ov iv u Q I ro ri rv h
 obtain ⟨p,xs,k,j,rfl,rfl,hp,hj,q⟩:=h
 cases ro
 obtain ⟨t,rfl⟩:=ri
 obtain ⟨its,n,r,ho,hz⟩:=I.lst hp
 obtain ⟨h1,h2,h3,h4⟩:=zrj hj
 have hl:=r.length
 have hn:=zlY
 have I':Inv X pins σ (upd H p (.lst (xs.set j v))) { s with heap:=s.heap.update p (Obj.mapSeq (·.setIfInBounds j u)) } :=
  I.zwU hp ho (zr1 its n j u) (r.set rv j) (by rw[List.length_set];exact hz) s.toks
 by_cases h0:0<=k
 ·have hk:k.toNat=j:=by
   rw[seqIndex_of h0 h4] at h1
   exact Option.some.inj h1
  exact PySem.W.ki_setAt ho h0 (by ac_rfl) (by rw[yao,<-hl];exact h4) (by rw[hk];exact ⟨_,I',q⟩)
 ·have hk:(k+(its.toArray.size:Int)).toNat=j:=by
   rw[seqIndex_neg (by ac_rfl) h3] at h1
   rw[yao,<-hl]
   exact Option.some.inj h1
  exact PySem.W.ki_setBack ho (by ac_rfl) (by rw[yao,<-hl];exact h3) (by ac_rfl) (by rw[hk];exact ⟨_,I',q⟩)
theorem zpr (lo hi:Option Int) (n:Nat):(sliceBounds lo hi none n).1=((HT.sIx n 0 lo:Nat):Int)/\(sliceBounds lo hi none n).2.1=((HT.sIx n n hi:Nat):Int)/\(sliceBounds lo hi none n).2.2=1:=by
 refine ⟨?_,?_,rfl⟩
 ·cases lo with
  | none=>simp[sliceBounds,HT.sIx]
  | some i =>
   simp only[sliceBounds,HT.sIx,Option.getD_none,show (1:Int) > 0 by decide,if_true]
   by_cases h:i<0
   ·simp only[h,if_true] <;> ac_rfl
   ·simp only[h,if_false] <;> ac_rfl
 ·cases hi with
  | none=>simp[sliceBounds,HT.sIx]
  | some i =>
   simp only[sliceBounds,HT.sIx,Option.getD_none,show (1:Int) > 0 by decide,if_true]
   by_cases h:i<0
   ·simp only[h,if_true] <;> ac_rfl
   ·simp only[h,if_false] <;> ac_rfl
theorem zn5 (its:List Value) (lo hi:Option Int):slicePick its.toArray lo hi none=((its.drop (HT.sIx its.length 0 lo)).take (HT.sIx its.length its.length hi-HT.sIx its.length 0 lo)).toArray:=by
 obtain ⟨h1,h2,h3⟩:=zpr lo hi its.toArray.size
 unfold slicePick
 rw[h1,h2,h3]
 simp only[sliceRange_one,pick_run,yao] <;> rfl
noncomputable def zwY (K:W.Frag):V->Option Int->Option Int->Hp->VK->Prop:=fun x lo hi H Q=>∃ a xs,x=.ref a/\SqL K H a xs/\∀ p,H p=none->Q (.ref p) (upd H p (.lst (zhX xs lo hi)))
theorem zmU:SlR X (zwY X.K):=by
 intro pins s σ H x v vl vu lo hi sl Q I rx hs pl pu h
 obtain ⟨a,xs,rfl,hx,q⟩:=h
 cases rx
 obtain ⟨its,r,ht,hz⟩:=I.list hx
 have hlen:=r.length
 refine ⟨"list", _,slot_list_getitem.lookup,ht.isList.typeIs,?_⟩
 refine wpAny_getItem_list_slice ht.isList hs pl pu .none (by simp) ?_ (by rw[yao] <;> ac_rfl)
 rw[zn5,<-hlen]
 refine ⟨.ref s.heap.objs.size,_,I.laid (t':=s.toks) (o:=.lst (zhX xs lo hi)) (fun b ob q=>ydp _ q) (ycz _) ?_,rfl,q _ (I.hok.fresh (ycz _))⟩
 exact ⟨yde (zrb xs lo hi) hz,_,0,(r.drop (HT.sIx xs.length 0 lo)).take (HT.sIx xs.length xs.length hi-HT.sIx xs.length 0 lo),ydr _ rfl⟩
noncomputable def zf8:V->Bool
 | .non=>true
 | .bl _=>true
 | .int _=>true
 | .str _=>true
 | _=>false
noncomputable def eqV:V->V->Bool
 | .non,.non=>true
 | .bl a,.bl b=>a == b
 | .bl a,.int b=>(if a then 1 else 0) == b
 | .int a,.bl b=>a == (if b then 1 else 0)
 | .int a,.int b=>a == b
 | .str a,.str b=>a == b
 | _,_=>false
theorem zwD {A:Around} {s:Shared} {y x:V} {u v:Value} (ry:RelV y u) (rx:RelV x v) (fy:zf8 y=true) (fx:zf8 x=true):SeqAt.EqAt A s u v (eqV y x):=by
 cases y with
 | non =>
  cases ry
  cases x with
  | non=>cases rx;exact SeqAt.EqAt.same _
  | bl b=>cases rx;exact SeqAt.EqAt.none_bool b
  | int b=>obtain ⟨t,rfl⟩:=rx;exact SeqAt.EqAt.none_int b t
  | str b=>obtain ⟨t,rfl⟩:=rx;exact SeqAt.EqAt.none_str b t
  | _=>exact absurd (show false=true from fx) Bool.false_ne_true
 | bl a =>
  cases ry
  cases x with
  | non=>cases rx;exact SeqAt.EqAt.bool_none a
  | bl b=>cases rx;exact SeqAt.EqAt.bool_bool a b
  | int b=>obtain ⟨t,rfl⟩:=rx;exact SeqAt.EqAt.bool_int a b t
  | str b=>obtain ⟨t,rfl⟩:=rx;exact SeqAt.EqAt.bool_str a b t
  | _=>exact absurd (show false=true from fx) Bool.false_ne_true
 | int a =>
  obtain ⟨t',rfl⟩:=ry
  cases x with
  | non=>cases rx;exact SeqAt.EqAt.int_none a t'
  | bl b=>cases rx;exact SeqAt.EqAt.int_bool a t' b
  | int b=>obtain ⟨t,rfl⟩:=rx;exact SeqAt.EqAt.int_int a t' b t
  | str b=>obtain ⟨t,rfl⟩:=rx;exact SeqAt.EqAt.int_str a t' b t
  | _=>exact absurd (show false=true from fx) Bool.false_ne_true
 | str a =>
  obtain ⟨t',rfl⟩:=ry
  cases x with
  | non=>cases rx;exact SeqAt.EqAt.str_none a t'
  | bl b=>cases rx;exact SeqAt.EqAt.str_bool a t' b
  | int b=>obtain ⟨t,rfl⟩:=rx;exact SeqAt.EqAt.str_int a t' b t
  | str b=>obtain ⟨t,rfl⟩:=rx;exact SeqAt.EqAt.str_str a t' b t
  | _=>exact absurd (show false=true from fx) Bool.false_ne_true
 | _=>exact absurd (show false=true from fy) Bool.false_ne_true
def eqU (x:V) (u:Value):Bool:=match u with
 | .none=>eqV .non x
 | .bool b=>eqV (.bl b) x
 | .int i _=>eqV (.int i) x
 | .str z _=>eqV (.str z) x
 | _=>false
theorem ztT {x y:V} {u:Value} (r:RelV y u) (f:zf8 y=true):eqU x u=eqV y x:=by
 cases y with
 | non=>cases r;rfl
 | bl b=>cases r;rfl
 | int i=>obtain ⟨t,rfl⟩:=r;rfl
 | str z=>obtain ⟨t,rfl⟩:=r;rfl
 | _=>exact absurd (show false=true from f) Bool.false_ne_true
theorem ziF {x:V}:∀ {xs:List V} {us:List Value},Vals xs us->xs.all zf8=true->us.any (eqU x)=xs.any fun y=>eqV y x
 | _,_,.nil,_=>rfl
 | y::xs,u::us,.cons r t,f=>by
  rw[List.all_cons,Bool.and_eq_true] at f
  rw[ych,ych,ztT r f.1,ziF t f.2]
theorem zg3 {A:Around} {s:Shared} {x:V} {v:Value} (rx:RelV x v) (fx:zf8 x=true):∀ {xs:List V} {us:List Value},Vals xs us->xs.all zf8=true->∀ u∈us,SeqAt.EqAt A s u v (eqU x u)
 | _,_,.nil,_=>fun u hu=>by cases hu
 | y::xs,u::us,.cons r t,f=>fun u' hu=>by
  rw[List.all_cons,Bool.and_eq_true] at f
  rcases yak.mp hu with rfl | hu
  ·rw[ztT r f.1];exact zwD r rx f.1 fx
  ·exact zg3 rx fx t f.2 u' hu
def inV (x:V) (xs:List V):Bool:=xs.any fun y=>eqV y x
def rIn (K:W.Frag) (neg:Bool):R2:=fun x y H Q=>∃ p xs,y=.ref p/\(SqL K H p xs\/SqT K H p xs)/\zf8 x=true/\xs.all zf8=true/\Q (.bl (if neg then !inV x xs else inV x xs)) H
theorem zhm:OpR X (compareOp .In) (rIn X.K false):=by
 intro pins s σ H x y v u Q I rx ry h
 obtain ⟨p,xs,rfl,hq,fx,fs,q⟩:=h
 cases ry
 rcases hq with hq | hq
 ·obtain ⟨its,r,pl,hz⟩:=I.list hq
  refine SeqAt.in_listAt (eqU x) pl.isList (fun w hw=>zg3 rx fx r fs w (by simpa using hw)) ⟨.bl _,H,I,rfl,?_⟩
  rw[show its.toArray.any (eqU x)=its.any (eqU x) by simp,ziF r fs]
  exact q
 ·obtain ⟨its,r,pl,hz⟩:=I.tuple hq
  refine SeqAt.in_tupleAt (eqU x) pl (fun w hw=>zg3 rx fx r fs w (by simpa using hw)) ⟨.bl _,H,I,rfl,?_⟩
  rw[show its.toArray.any (eqU x)=its.any (eqU x) by simp,ziF r fs]
  exact q
theorem zo9:OpR X (compareOp .NotIn) (rIn X.K true):=by
 intro pins s σ H x y v u Q I rx ry h
 obtain ⟨p,xs,rfl,hq,fx,fs,q⟩:=h
 cases ry
 rcases hq with hq | hq
 ·obtain ⟨its,r,pl,hz⟩:=I.list hq
  refine SeqAt.notIn_listAt (eqU x) pl.isList (fun w hw=>zg3 rx fx r fs w (by simpa using hw)) ⟨.bl _,H,I,rfl,?_⟩
  rw[show its.toArray.any (eqU x)=its.any (eqU x) by simp,ziF r fs]
  exact q
 ·obtain ⟨its,r,pl,hz⟩:=I.tuple hq
  refine SeqAt.notIn_tupleAt (eqU x) pl (fun w hw=>zg3 rx fx r fs w (by simpa using hw)) ⟨.bl _,H,I,rfl,?_⟩
  rw[show its.toArray.any (eqU x)=its.any (eqU x) by simp,ziF r fs]
  exact q
theorem zaI:zbh X (.builtin "len") (fun xs H Q=>∃ p ys,xs=[.ref p]/\(SqL X.K H p ys\/SqT X.K H p ys)/\Q (.int ys.length) H):=by
 intro pins s σ H xs us Q I r h
 obtain ⟨p,ys,rfl,hq,q⟩:=h
 obtain ⟨u,rfl,rx⟩:=vals1 r
 cases rx
 have hn:=zlY
 rcases hq with hq | hq
 ·obtain ⟨its,r',pl,hz⟩:=I.list hq
  have hlen:=r'.length
  exact Calls.call_len_list pl.isList (by simp only[yao] <;> ac_rfl) ⟨.int ys.length,H,I.tok _,⟨s.toks+1,by rw[yao,hlen]⟩,q⟩
 ·obtain ⟨its,r',pl,hz⟩:=I.tuple hq
  have hlen:=r'.length
  exact len_tuple pl (by simp only[yao] <;> ac_rfl) ⟨.int ys.length,H,I.tok _,⟨s.toks+1,by rw[yao,hlen]⟩,q⟩
theorem zaU:zbh X (.type "list") (fun xs H Q=>∃ p ys,xs=[.ref p]/\(SqL X.K H p ys\/SqT X.K H p ys)/\∀ l,H l=none->Q (.ref l) (upd H l (.lst ys))):=by
 intro pins s σ H xs us Q I r h
 obtain ⟨p,ys,rfl,hq,q⟩:=h
 obtain ⟨u,rfl,rx⟩:=vals1 r
 cases rx
 have fin:∀ (its:List Value),Vals ys its->ys.length<=sizeLine->∀ (h':Heap) (c':Nat),(∀ b o',s.heap.get? b=some o'->h'.get? b=some o') ->
   h'.get? s.heap.objs.size=some { cls:=.type "list", dict:=none,data:=.seq its.toArray c',slots:=#[] }->EP X pins σ Q (.ref s.heap.objs.size) { s with heap:=h' }:=fun its r' hz h' c' kp e =>
  ⟨.ref s.heap.objs.size,_,I.laid (t':=s.toks) kp (ycz _) (show zai X.prog X.w _ h' _ (.lst ys) from ⟨hz,its,c',r',e⟩),rfl,q _ (I.hok.fresh (ycz _))⟩
 rcases hq with hq | hq
 ·obtain ⟨its,r',pl,hz⟩:=I.list hq
  have hlen:=r'.length
  obtain ⟨o,ho,hc,n,hd⟩:=pl.isList
  exact call_list_seq p (.inl rfl) ho hc hd (fun h' c' kp e=>fin its r' hz h' c' kp e) (by simp only[yao] <;> ac_rfl)
 ·obtain ⟨its,r',pl,hz⟩:=I.tuple hq
  have hlen:=r'.length
  obtain ⟨o,ho,hc,n,hd⟩:=pl
  exact call_list_seq p (.inr rfl) ho hc hd (fun h' c' kp e=>fin its r' hz h' c' kp e) (by simp only[yao] <;> ac_rfl)
def tyV (K:W.Frag) (T:String) (x:V) (H:Hp):Prop:=match x with
 | .str _=>T = "str"
 | .int _=>T = "int"
 | .ref p=>(T = "list" /\ ∃ xs,SqL K H p xs)\/(T = "tuple" /\ ∃ o,K.lookup p=some o/\o.cls=.type "tuple" /\ o.dict=none) \/
   (T = "dict" /\ ∃ kvs,H p=some (.dK kvs))\/(T = "set" /\ ∃ S n,H p=some (.set S n))
 | _=>False
theorem zwW {pins:List (Addr × Obj)} {σ:St} {H:Hp} {s:Shared} {T:String} {x:V} {v:Value} (I:Inv X pins σ H s) (r:RelV x v) (ty:tyV X.K T x H) :
  s.TypeIs v T/\∀ a,v=.ref a->∃ ob,s.heap.get? a=some ob/\ob.dict=none:=by
 cases x with
 | str z =>
  obtain ⟨t,rfl⟩:=r
  cases (show T = "str" from ty)
  exact ⟨typeIs_str s z t,fun _ e=>nomatch e⟩
 | int i =>
  obtain ⟨t,rfl⟩:=r
  cases (show T = "int" from ty)
  exact ⟨typeIs_int s i t,fun _ e=>nomatch e⟩
 | ref p =>
  cases r
  rcases ty with ⟨rfl,xs,hq⟩ | ⟨rfl,o,hk,hc,hd⟩ | ⟨rfl,hk⟩ | ⟨rfl,S,n,hk⟩
  ·obtain ⟨its,_,pl,_⟩:=I.list hq
   refine ⟨pl.isList.typeIs,fun a e=>?_⟩
   cases e
   obtain ⟨o,n,e,c,hd,_⟩:=pl
   exact ⟨o,e,hd⟩
  ·refine ⟨⟨o,I.kIn p o hk,hc⟩,fun a e=>?_⟩
   cases e
   exact ⟨o,I.kIn _ o hk,hd⟩
  ·have z:∃ o,s.heap.get? p=some o/\o.ExactDict:=by
    obtain ⟨kvs,hk⟩:=hk
    obtain ⟨_,_,_,_,o,_,_,e,ex,_⟩:=I.hok p _ hk
    exact ⟨o,e,ex⟩
   obtain ⟨o,e,ex⟩:=z
   refine ⟨⟨o,e,ex.1⟩,fun a e2=>?_⟩
   cases e2
   exact ⟨o,e,ex.2.1⟩
  ·obtain ⟨o,_,_,_,e,ex,_⟩:=I.hok p _ hk
   refine ⟨⟨o,e,ex.1⟩,fun a e2=>?_⟩
   cases e2
   exact ⟨o,e,ex.2.1⟩
 | _=>exact False.elim ty
def tBM (K:W.Frag) (T:String) (r:V->List V->Hp->VK->Prop) (to:TE) (t:TA):TE:=fun σ H Q=>to σ H fun x H1=>tyV K T x H1/\t σ H1 fun xs H2=>r x xs H2 Q
variable {o e:Expr} {es:List Expr} {to:TE} {t:TA} {name:Str} {apos cpos:Pos} {T id:String} {r:V->List V->Hp->VK->Prop}
theorem zfb (pa:PlainAttrs T) (slot:Slot T name id) (hty:typeOf (.builtin id)=pure (.type "method_descriptor")) (hm:MtR X id r) (ho:PE X o to) (ha:PA X (e::es) t)
  (hbase:attributeBase o name X.env (eval o X.env)=eval o X.env:=by rfl)
  (hfew:((backTo cpos (starEach (e::es) X.env)).all (fun x=>!x.1) && (backToKw cpos (keywordEach [] X.env)).all (fun x=>x.1.isSome)
   && decide ((e::es).length+([]:List Keyword).length+(if ([]:List Keyword).isEmpty then 0 else 1)<30))=true:=by rfl)
  (hline:(apos.endLine == cpos.line)=true:=by rfl) (hs:starEach (e::es) X.env=(false,eval e X.env)::starEach es X.env:=by rfl) (hplain:(backTo cpos (starEach es X.env)).any (·.1)=false:=by rfl) :
  PE X (.Call (.Attribute o name apos) (e::es) [] cpos) (tBM X.K T r to t):=by
 intro pins s σ H Q I h
 refine wpAny_Call_method_late hbase hfew hline rfl (thn (ho pins s σ H _ I h) fun v s1 ⟨x,H1,I1,r1,ty,q1⟩=>?_)
 obtain ⟨h1,h2⟩:=zwW I1 r1 ty
 refine ⟨T,id,pa,slot,hty,h1,h2,?_⟩
 have hA:=ha cpos pins s1 σ H1 _ I1 q1
 rw[hs] at hA ⊢
 refine Calls.callWith_builtin (by show (false || (backTo cpos (starEach es X.env)).any (·.1))=false;rw[hplain] <;> rfl) (Calls.evalArgs_plain ?_)
 exact thn hA fun us s2 ⟨vs,H2,I2,r2,q2⟩=>hm pins s2 σ H2 x vs v us Q I2 r1 r2 q2
/- xs.append(e),list.index on a module's tuple .. are MtR facts of 06m -/
end
def MtM (X:Cx) (id:String) (r:V->List V->Hp->VK->Prop):Prop :=
 ∀ (pins:List (Addr × Obj)) (s:Shared) (σ:St) (H:Hp) (x:V) (xs:List V) (v:Value) (us:List Value) (Q:VK),Inv X pins σ H s->RelV x v->Vals xs us->r x xs H Q ->
  wpAny (model X.prog X.w) X.A (call (.builtin id) (v::us)) (EP X pins σ Q) X.xe s
theorem Vals.one:∀ {x:V} {us:List Value},Vals [x] us->∃ u,us=[u]/\RelV x u
 | _,_,.cons r .nil=>⟨_,rfl,r⟩
section
variable {X:Cx} {pins:List (Addr × Obj)} {σ:St} {H:Hp} {s:Shared} {l b:Addr} {xs ys zs:List V}
theorem Inv.lset {its its':List Value} {n:Nat} {f:Array Value->Array Value} {t':Nat} (I:Inv X pins σ H s) (hH:H l=some (.lst xs))
  (e:s.heap.get? l=some { cls:=.type "list", data:=.seq its.toArray n }) (hf:f its.toArray=its'.toArray) (hv:Vals ys its') (hz:ys.length<=sizeLine) :
  Inv X pins σ (upd H l (.lst ys)) { s with heap:=s.heap.update l (Obj.mapSeq f),toks:=t' }:=by
 have q:=PySem.IsL.update e f
 rw[hf] at q
 refine I.write (x:=l) (e:=l) (by rw[hH];exact trivial) (.inl rfl) (fun b' u hb hu=>(yds s.heap (Obj.mapSeq f) (Ne.symm hb)).trans hu) ⟨_,q⟩ ?_
 exact ⟨hz,its',_,hv,q⟩
theorem Inv.lnew {its:List Value} {t':Nat} (I:Inv X pins σ H s) (hv:Vals ys its) (hz:ys.length<=sizeLine) :
  Inv X pins σ (upd H s.heap.objs.size (.lst ys)) { s with heap:=s.heap.push { cls:=.type "list", data:=.seq its.toArray },toks:=t' } :=
 I.laid (fun _ _ q=>ydp _ q) (ycz _) ⟨hz,its,0,hv,ydr _ rfl⟩
theorem Inv.fresh (I:Inv X pins σ H s):H s.heap.objs.size=none:=I.hok.fresh (ycz _)
theorem Inv.znh (I:Inv X pins σ H s) (hH:H l=some (.lst xs)):xs.length<=sizeLine/\∃ (its:List Value) (n:Nat),Vals xs its/\xs.length=its.length/\s.heap.get? l=some { cls:=.type "list", data:=.seq its.toArray n }:=by
 obtain ⟨z,its,n,r,e⟩:=I.hok l _ hH
 exact ⟨z,its,n,r,r.length,e⟩
theorem zpz {n:Nat} (h:n<=sizeLine):Builtin.List.listTooLong n=false:=by
 unfold Builtin.List.listTooLong
 exact decide_eq_false (by ac_rfl)
end
section
variable {X:Cx}
noncomputable def zwa:V->List V->Hp->VK->Prop:=fun x vs H Q=>∃ l xs y,x=.ref l/\vs=[y]/\H l=some (.lst xs)/\xs.length<sizeLine/\Q .non (upd H l (.lst (xs++[y])))
theorem za7:MtM X "list.append" zwa:=by
 intro pins s σ H x vs v us Q I rx rv h
 obtain ⟨l,xs,y,rfl,rfl,hH,hz,q⟩:=h
 cases rx
 obtain ⟨u,rfl,ru⟩:=rv.one
 obtain ⟨z,its,n,r,hl,e⟩:=I.znh hH
 refine call_meets F.slot_list_append ⟨_,e,rfl⟩ F.entry_list_append (F.args_list_append_2 _ _) (PySem.list_append l its.toArray n u (by rw[yao];ac_rfl)) ⟨e,?_⟩
 refine ⟨.non,_,I.lset (its':=its++[u]) hH e (by simp) (r.append (.cons ru .nil)) ?_,rfl,q⟩
 rw[yai,ybr]
 ac_rfl
noncomputable def zv8:V->List V->Hp->VK->Prop:=fun x vs H Q=>∃ l b xs zs,x=.ref l/\vs=[.ref b]/\H l=some (.lst xs)/\H b=some (.lst zs)/\xs.length+zs.length<=sizeLine/\Q .non (upd H l (.lst (xs++zs)))
theorem znG:MtM X "list.extend" zv8:=by
 intro pins s σ H x vs v us Q I rx rv h
 obtain ⟨l,b,xs,zs,rfl,rfl,hH,hB,hz,q⟩:=h
 cases rx
 obtain ⟨u,rfl,ru⟩:=rv.one
 cases ru
 obtain ⟨z,its,n,r,hl,e⟩:=I.znh hH
 obtain ⟨z2,its2,n2,r2,hl2,e2⟩:=I.znh hB
 have hsz:its.toArray.size+its2.toArray.size<=sizeLine:=by rw[yao,yao];ac_rfl
 have hlong:¬ (!its.toArray.isEmpty && Builtin.List.listTooLong (its.toArray.size+its2.toArray.size))=true:=by
  rw[zpz hsz,Bool.and_false]
  exact Bool.false_ne_true
 refine call_meets F.slot_list_extend ⟨_,e,rfl⟩ F.entry_list_extend (F.args_list_extend_2 _ _)
  (AutoSeq1.list_extend_list_list_0 l its.toArray n b its2.toArray n2 hlong (by rw[yao];ac_rfl) (by ac_rfl)) ⟨e,e2,?_⟩
 refine ⟨.non,_,I.lset (its':=its++its2) hH e (by simp) (r.append r2) ?_,rfl,q⟩
 rw[yai]
 ac_rfl
def zyp:R2:=fun x y H Q=>∃ l b xs zs,x=.ref l/\y=.ref b/\H l=some (.lst xs)/\H b=some (.lst zs)/\xs.length+zs.length<=sizeLine/\∀ p,H p=none->Q (.ref p) (upd H p (.lst (xs++zs)))
theorem zcg:OpR X (binaryOp .Add) zyp:=by
 intro pins s σ H x y v u Q I rx ry h
 obtain ⟨l,b,xs,zs,rfl,rfl,hH,hB,hz,q⟩:=h
 cases rx
 cases ry
 obtain ⟨z,its,n,r,hl,e⟩:=I.znh hH
 obtain ⟨z2,its2,n2,r2,hl2,e2⟩:=I.znh hB
 refine PySem.P.add_list e e2 ?_ (by rw[yao,yao];ac_rfl)
 have ea:its.toArray++its2.toArray=(its++its2).toArray:=by simp
 rw[ea]
 exact ⟨.ref _,_,I.lnew (t':=s.toks) (r.append r2) (by rw[yai];ac_rfl),rfl,q _ I.fresh⟩
end
section
variable {prog:Program} {w:World} {A:Around} {E:Value->Shared->Prop} {s:Shared}
set_option maxRecDepth 100000 in
end
section
variable {X:Cx}
end
end L2
namespace Att
open PySem PySem.W PySem.Calls PyProof.Rows
theorem zl6 {P:Params} {h:Heap}:∀ (ns:List Int) (vs:List Value),WellAll P h vs (ns.map WData.int)->IntsAre vs ns:=by
 intro ns
 induction ns with
 | nil =>
  intro vs w
  rw[List.map_nil] at w
  cases w
  exact .nil
 | cons n ns ih =>
  intro vs w
  rw[ybi] at w
  cases w with
  | cons a b =>
   cases a
   exact .cons _ _ (ih _ b)
theorem zs0 {l:OpenLaw} {n:Nat} (hn:l.most=some n) {P:Params} {h:Heap} {args:List WData} {vals:List Value}
  (hpre:l.row.toRowW.claim.pre args=true) (hwl:WellAll P h vals args) :
  ∃ a vs ns,vals=[Value.ref a]/\args=[WData.list (ns.map WData.int)]/\h.get? a=some { cls:=.type "list", data:=.seq vs.toArray }/\IntsAre vs ns/\ns.length<=n:=by
 have hsh:WShape.hasAll [] args [.list .int]=true:=(pre_splitW hpre).1
 have hc:l.pre.holds [] { args:=args }=true:=(pre_splitW hpre).2
 obtain ⟨d,r,rfl,h1,h2⟩:=hasAllW_cons hsh
 obtain rfl:=hasAllW_nil h2
 obtain ⟨xs,rfl,h3⟩:=hasW_list h1
 obtain ⟨ns,rfl⟩:=items_int h3
 have hlen:ns.length<=n:=by
  unfold OpenLaw.pre at hc
  have h4:(WTm.not (.lt (.lit (.int (n:Int))) (.len (.arg 0)))).holds [] { args:=[.list (ns.map .int)] }=true:=by
   have h4:=(holds_andW hc).1
   rw[hn] at h4
   exact h4
  have h5:=condW_of h4 (w_not (w_lt w_lit (w_len_list (w_arg rfl))))
  rw[yab] at h5
  refine Nat.le_of_not_lt fun q=>?_
  have q':(n:Int)<((ns.length:Nat):Int):=by ac_rfl
  first
   | (rw[decide_eq_true q'] at h5;exact absurd h5 (by decide))
   | (simp at h5;ac_rfl)
 cases hwl with
 | cons w1 w2 =>
  cases w2
  cases w1 with
  | list ho hall=>exact ⟨_,_,ns,rfl,rfl,ho,zl6 ns _ hall,hlen⟩
theorem zs6 (l:OpenLaw) (args:List WData):l.row.toRowW.claim.post args (.bool true) args=true :=
 postW_of (r:=l.row.toRowW) (X:=(true == true))
  (show WShape.has [] (.bool true) .bool=true by first | rfl | decide | simp[WShape.has,WShape.arms,WShape.armsAll])
  (show (WTm.eq .res (.lit (.bool true))).value [] { args:=args,res:=some (.bool true),after:=args }=some (.bool (true == true)) from w_eq_bool (w_res rfl) w_lit) rfl
theorem zqY {l:OpenLaw} {n:Nat} {q:Program} {loose:List Str} {XP:(Str->Option Value)->Heap->Prop} {YP:World->Heap->Prop} {d:DefRec}
  (hn:l.most=some n) (hdf:d.params.defaults=[])
  (call:∀ (w:World) (s₀ s₁:Shared) (mg mb:Str->Option Value) (fa:Addr) (o:Obj) (pm cd doc:Value) (a:Addr) (vs:List Value) (ns:List Int),
   Ground q loose [] XP w s₀ mg mb s₁.heap->YP w s₁.heap ->
   s₁.heap.get? fa=some o->o.data=.func (docDef d.name d.params d.body d.scope pm cd doc)->s₁.heap.CodeRec cd d.name->mg d.name=some (.ref fa) ->
   s₁.heap.get? a=some { cls:=.type "list", data:=.seq vs.toArray }->IntsAre vs ns->ns.length<=n->s₁.gens=#[] ->
   codeAny (model l.prog w) callerA (.call (.ref fa) ⟨[.ref a],[]⟩) (fun r s'=>r=.ok (.ret (.bool true))/\OldK s₁.heap s'.heap/\s'.os=s₁.os/\AllBare s'.gens) s₁) :
  WalkO q loose XP YP l.row.toRowW d [] (fun f vs=>PySem.call f vs):=by
 intro w s₀ s₁ mg mb G Y fa o pm cd doc dV kV ho hd hcd hD hmg hg args vals as hpre hlay hrd hwl hlo
 obtain rfl:dV=.none:=Dflts.none hD hdf
 obtain rfl:kV=.none:=Dflts.noKw hD
 obtain ⟨a,vs,ns,rfl,rfl,hobj,hints,hlen⟩:=zs0 hn hpre hwl
 refine enter_call (codeAny_mono (call w s₀ s₁ mg mb fa o pm cd doc a vs ns G Y ho (fd_plain hd) hcd hmg hobj hints hlen hg) fun r s' hq=>?_)
 obtain ⟨rfl,h2,h3,h4⟩:=hq
 exact ⟨.inl ⟨.bool true,.bool true,[],rfl,fun _=>rfl,.bool true,zs6 l _,fun _=>⟨List.Pairwise.nil,fun _ hm=>(nomatch hm)⟩⟩,h2,h3,h4⟩
section
variable {prog:Program} {w:World} {A:Around} {E:Value->Shared->Prop} {s:Shared} {K:Frag}
noncomputable def ledger (h:Heap) (L d:Addr):List (Addr × Obj):=(ybg h.objs.size).filterMap fun a=>if a=L\/a=d then none else (h.get? a).map fun o=>(a,o)
end
end Att
namespace L2
open PySem PySem.Spec PyProof.Rows
theorem zjJ:∀ {vs:List Value} {ns:List Int},IntsAre vs ns->Vals (ns.map V.int) vs
 | _,_,.nil=>.nil
 | _,_,.cons n t h=>.cons ⟨t,rfl⟩ (zjJ h)
def Only (H:Hp):Prop:=∀ b,H b=none\/∃ o xs,H b=some (.frz o (.lst xs))
theorem zuN {P:Program} {w:World} {K:W.Frag} {mg mb:Str->Option Value} {CX:CXT} {k:Nat} {fa a:Addr} {fd:FuncData} {x:Str} {sp:Sp} {s₁:Shared} {vs:List Value} {ns:List Int}
  (KX:K.In s₁.heap) (hns:s₁.heap.Ns mainGlobals mg) (hb:s₁.heap.Ns builtinsNs mb) (hbb:∀ x:Str,x ≠ "__name__" -> mb x=bootBuiltins x) (hlim:s₁.heap.NoLimit) (hg:s₁.gens=#[])
  (ha:s₁.heap.get? a=some { cls:=.type "list", data:=.seq vs.toArray }) (hi:IntsAre vs ns) (hl:ns.length<=sizeLine) (hr:Room k callerA)
  (F:∀ base:Heap,K.In base->base.Ns mainGlobals mg->zcn P w K mg base CX k fa fd [x] sp) (hbind:∀ (s:Shared) (u:Value),BindsTo s fd ⟨[u],[]⟩ [(x,u)])
  (hsp:∀ H:Hp,Only H->SqL K H a (ns.map V.int)->sp [.ref a] H (fun v _=>v=.bl true) fun _ _ _=>False)
  (hCX:∀ H e s',CX [] H s₁ (fun _ _ _=>False) e s'->False) :
  codeAny (model P w) callerA (.call (.ref fa) ⟨[.ref a],[]⟩) (fun r s'=>r=.ok (.ret (.bool true))/\OldK s₁.heap s'.heap/\s'.os=s₁.os/\AllBare s'.gens) s₁:=by
 have rv:=zjJ hi
 have lenV:=hi.length
 have core:∀ H:Hp,Only H->SqL K H a (ns.map V.int)->HOk P w H s₁.heap->(∀ b,H b≠none->b=a)->(H a≠none->K.lookup a=none) ->
   codeAny (model P w) callerA (.call (.ref fa) ⟨[.ref a],[]⟩) (fun r s'=>r=.ok (.ret (.bool true))/\OldK s₁.heap s'.heap/\s'.os=s₁.os/\AllBare s'.gens) s₁:=by
  intro H hO hS hok hA hK
  have base_of:∀ {b:Addr} {o:Obj},s₁.heap.get? b=some o->H b=none->(zjf s₁.heap H).get? b=some o:=fun e n=>zuC e n
  have noA:∀ {b:Addr} {o:Obj} {es:Array DictEntry} {ep:Nat},s₁.heap.get? b=some o->o.data=.dict es ep->H b=none:=fun {b o es ep} e d=>by
   cases q:H b with
   | none=>rfl
   | some u =>
    have e':b=a:=hA b (by rw[q];simp)
    subst e'
    rw[ha] at e;cases e
    have d':Data.seq vs.toArray _=Data.dict es ep:=d
    cases d'
  have nsK:∀ {b:Addr} {m:Str->Option Value},s₁.heap.Ns b m->(zjf s₁.heap H).Ns b m:=fun {b m} ⟨o,es,ep,e,d,r⟩=>⟨o,es,ep,base_of e (noA e d),d,r⟩
  have hKb:K.In (zjf s₁.heap H):=fun b o e=>base_of (KX b o e) (by
   cases q:H b with
   | none=>rfl
   | some u =>
    have e':b=a:=hA b (by rw[q];simp)
    subst e'
    rw[hK (by rw[q];simp)] at e;cases e)
  have hM:Mod K mg (zjf s₁.heap H):=⟨hKb,nsK hns,⟨mb,nsK hb,hbb⟩,let ⟨mc,h1,h2⟩:=hlim;⟨mc,nsK h1,h2⟩⟩
  have e0:zlS P w K mg (zjf s₁.heap H) callerA [] s₁ H:=⟨rfl,hM,fun b o e=>zv9 e,Nat.le_of_eq (zsR _ _),trivial,fun b hb=>absurd (show b∈([]:List Addr) from hb) (by simp),hok,.of_eq hg⟩
  refine codeAny_mono ((F _ hKb (nsK hns)).run callerA [] s₁ H ⟨[.ref a],[]⟩ [.ref a] [.ref a] _ _ hr e0 (hbind s₁ (.ref a)) (.cons rfl .nil) (hsp H hO hS)) fun r s' h=>?_
  cases r with
  | error e=>exact (hCX H e s' h).elim
  | ok fl =>
   cases fl with
   | next=>exact False.elim h
   | brk=>exact False.elim h
   | cont=>exact False.elim h
   | ret u =>
    obtain ⟨v,H',os,bare,un,hok',r',q⟩:=h
    have q':v=.bl true:=q
    subst q'
    obtain rfl:u=Value.bool true:=r'
    refine ⟨rfl,OldK.of_keep fun b o e=>?_,os,bare⟩
    cases q:H b with
    | none=>exact un.keep b o e q (by intro z;exact absurd (show b∈([]:List Addr) from z) (by simp)) (by simp)
    | some u =>
     rcases hO b with z | ⟨ob,xs,z⟩
     ·rw[q] at z;cases z
     ·have z2:=un.frzs b ob _ z
      obtain ⟨e1,_⟩:=hok b _ z
      obtain ⟨e2,_⟩:=hok' b _ z2
      rw[e] at e1;cases e1
      exact e2
 cases hk:K.lookup a with
 | some o =>
  have e:=KX a o hk
  rw[ha] at e
  cases e
  refine core (fun _=>none) (fun _=>.inl rfl) (.inr ⟨_,vs.toArray,_,hk,rfl,rfl,rfl,by rw[yao,lenV];exact hl,by simpa using rv⟩) (fun b u z=>by have z':(none:Option HO)=some u:=z;cases z') (fun b z=>absurd rfl z) fun z=>absurd rfl z
 | none =>
  refine core (fun b=>if b=a then some (.frz { cls:=.type "list", data:=.seq vs.toArray } (.lst (ns.map V.int))) else none) (fun b=>?_) (.inl (.inr ⟨{ cls:=.type "list", data:=.seq vs.toArray },if_pos rfl⟩)) (fun b u z=>?_) (fun b z=>?_) fun _=>hk
  ·by_cases hb:b=a
   ·exact .inr ⟨_,_,if_pos hb⟩
   ·exact .inl (if_neg hb)
  ·by_cases hb:b=a
   ·have z':=(if_pos hb).symm.trans z
    cases z'
    subst hb
    exact ⟨ha,by rw[yab];exact hl,vs,_,rv,ha⟩
   ·have z':=(if_neg hb).symm.trans z
    cases z'
  ·by_cases hb:b=a
   ·exact hb
   ·exact absurd (if_neg hb) z
theorem zvD {l:PySem.W.OpenLaw} {n k:Nat} {q:Program} {loose:List Str} {XP:(Str->Option Value)->Heap->Prop} {YP:World->Heap->Prop} {d:DefRec} {K:Params->W.Frag} {CX:World->CXT} {sp:World->Sp} {x:Str}
  (hn:l.most=some n) (hn2:n<=sizeLine) (hdf:d.params.defaults=[]) (hr:Room k callerA)
  (hY:∀ (w:World) (h:Heap),YP w h->(K w.params).In h)
  (F:∀ (w:World) (mg:Str->Option Value) (fa:Addr) (h:Heap),(K w.params).In h->h.Ns mainGlobals mg->mg d.name=some (.ref fa) ->
   ∃ fd:FuncData,(∀ (s:Shared) (u:Value),BindsTo s fd ⟨[u],[]⟩ [(x,u)]) /\
    ∀ base:Heap,(K w.params).In base->base.Ns mainGlobals mg->zcn l.prog w (K w.params) mg base (CX w) k fa fd [x] (sp w))
  (hsp:∀ (w:World) (H:Hp) (a:Addr) (ns:List Int),ns.length<=n->Only H->SqL (K w.params) H a (ns.map V.int)->sp w [.ref a] H (fun v _=>v=.bl true) fun _ _ _=>False)
  (hCX:∀ (w:World) (H:Hp) (s:Shared) (e:Value) (s':Shared),CX w [] H s (fun _ _ _=>False) e s'->False) :
  PySem.W.WalkO q loose XP YP l.row.toRowW d [] (fun f vs=>PySem.call f vs):=by
 refine Att.zqY hn hdf fun w s₀ s₁ mg mb fa o pm cd doc a vs ns G Y ho hd hcd hmg hobj hints hlen hg=>?_
 have KX:=hY w _ Y
 obtain ⟨fd,hb,hF⟩:=F w mg fa _ KX G.T.g hmg
 exact zuN KX G.T.g G.T.b G.T.builtins G.T.nolimit hg hobj hints (yde hlen hn2) hr hF hb (fun H hO hS=>hsp w H a ns hlen hO hS) fun H e s'=>hCX w H s₁ e s'
noncomputable def inClass (s:Stmt) (j:Nat):Stmt:=match s with
 | .ClassDef _ _ _ body _ _ _ _ _ _ _=>body.getD j (.Pass ⟨0,0,0,0⟩)
 | _=>.Pass ⟨0,0,0,0⟩
noncomputable def zcI (s:Stmt):Arguments:=match s with
 | .FunctionDef _ a _ _ _ _ _ _ _ _=>a
 | _=>{ posonlyargs:=[],args:=[],vararg:=none,kwonlyargs:=[],kw_defaults:=[],kwarg:=none,defaults:=[] }
noncomputable def zaX (s:Stmt):List Stmt:=match s with
 | .FunctionDef _ _ b _ _ _ _ _ _ _=>b
 | _=>[]
noncomputable def zh (s:Stmt):Scope:=match s with
 | .FunctionDef _ _ _ _ _ _ sc _ _ _=>sc
 | _=>{ kind:=.function,names:=[],isGenerator:=false,isCoroutine:=false }
noncomputable abbrev CX0:CXT:=fun _ _ _ _ _ _=>False
noncomputable abbrev E0:XK:=fun _ _ _=>False
theorem zhl {X:Cx}:Passes CX0 X E0:=fun _ _ _ _ _ _ _ h=>h.elim
structure Fun (K:W.Frag) (x qual:Str) (st:Stmt) (f:Addr) (fd:FuncData):Prop where
 ex:∃ (oc:Value) (od:Option Addr) (kV doc pm:Value) (an:Option Addr) (cdv ct:Value) (osl:Array (Option Value)),
  fd=PySem.W.fnOf x qual (zcI st) (zaX st) (zh st) .none kV doc pm an cdv ct/\K.lookup f=some ⟨oc,od,.func fd,osl⟩/\PySem.W.codeIn K cdv qual=true
 kp:PySem.W.keepIn K (.ref f)=true
section
variable {P:Program} {w:World} {K:W.Frag} {mg:Str->Option Value} {base:Heap}
theorem Fun.ok {x qual:Str} {st:Stmt} {f:Addr} {fd:FuncData} {N ps:List Str} {k:Nat} {sp:Sp} (F:Fun K x qual st f fd) (S:zj N ps (zh st)) (len:∀ vs H Q E,sp vs H Q E->vs.length=ps.length)
  (hbody:∀ (cdv:Value) (A:Around) (outer:List Env) (s:Shared) (H:Hp) (vs:List V) (Q:VK) (E:XK),Room k (A.deeper (envOfC qual (zh st) s.heap.objs.size f cdv))->sp vs H Q E ->
   ∃ t,PSs (zgp CX0 P w K mg base N qual (zh st) f cdv A outer s H E).nox (zaX st) t/\t { nx:=fun _ H'=>Q .non H',rt:=Q } (start N vs) H):zcn P w K mg base CX0 (k+1) f fd ps sp:=by
 obtain ⟨oc,od,kV,doc,pm,an,cdv,ct,osl,rfl,lk,hcd⟩:=F.ex
 refine zxq lk hcd S len fun A outer s H vs Q E hr hsp=>?_
 obtain ⟨t,h,q⟩:=hbody cdv A outer s H vs Q E hr hsp
 exact ⟨t,h.nox,q⟩
theorem zp0 {x qual:Str} {st:Stmt} {f:Addr} {oc:Value} {od an:Option Addr} {osl:Array (Option Value)} {kV doc pm cdv ct:Value} (l:K.lookup f=some ⟨oc,od,.func (PySem.W.fnOf x qual (zcI st) (zaX st) (zh st) .none kV doc pm an cdv ct),osl⟩)
  (c:PySem.W.codeIn K cdv qual=true) (k:PySem.W.keepIn K (.ref f)=true):Fun K x qual st f (PySem.W.fnOf x qual (zcI st) (zaX st) (zh st) .none kV doc pm an cdv ct):=⟨⟨oc,od,kV,doc,pm,an,cdv,ct,osl,rfl,l,c⟩,k⟩
end
section
variable {X:Cx}
theorem pv (i:Nat) {x:Str} {pos:Pos} (hN:X.N[i]?=some x:=by rfl) (hv:Vis X.env.scope x:=by first | exact Or.inl rfl | exact Or.inr (Or.inl rfl) | exact Or.inr (Or.inr rfl)) (hd:(x == ("__debug__" : Str))=false:=by decide)
  (hcd:(x == ("__classdict__" : Str))=false:=by decide):PE X (.Name x pos) (zwR i):=zwO hN hv hd hcd
end
theorem zwF {A B:Prop} (h:B):if false=true then A else B:=by
 rw[if_neg Bool.false_ne_true]
 exact h
theorem zx1 {A B:Prop} (h:A):if true=true then A else B:=by
 rw[if_pos rfl]
 exact h
def Same (H H':Hp):Prop:=∀ b o,H b=some o->H' b=some o
theorem Same.refl (H:Hp):Same H H:=fun _ _ h=>h
theorem Same.trans {H H1 H2:Hp} (a:Same H H1) (b:Same H1 H2):Same H H2:=fun c o h=>b c o (a c o h)
theorem Same.seq {K:W.Frag} {H H':Hp} {a:Addr} {xs:List V} (e:Same H H') (h:SqL K H a xs):SqL K H' a xs:=by
 rcases h with (h | ⟨o,h⟩) | h
 ·exact .inl (.inl (e _ _ h))
 ·exact .inl (.inr ⟨o,e _ _ h⟩)
 ·exact .inr h
theorem zai.swap {P:Program} {w:World} {H H':Hp} {h h':Heap} {a:Addr} {o:HO} (x:zai P w H h a o) (y:zai P w H' h' a o):zai P w H h' a o:=by
 induction o with
 | ins C dx fs=>exact ⟨x.1,y.2⟩
 | frz ob u ih=>exact ⟨y.1,ih x.2 y.2⟩
 | _=>exact y
theorem HOk.forget {P:Program} {w:World} {H H':Hp} {h h':Heap} (a:HOk P w H h) (b:HOk P w H' h') (s:Same H H'):HOk P w H h':=fun x o e=>(a x o e).swap (b x o (s x o e))
theorem Un.forget {fs ex:List Addr} {H H':Hp} {h h':Heap} (u:Un fs ex H H' h h'):Un fs ex H H h h' :=
 ⟨u.keep,u.slot,fun _ _ _ n _=>n,u.there,fun _ _ q=>q,fun _ _ _ q=>q,fun b ps q=>⟨#[],by rw[q];simp⟩⟩
theorem zcn.forget {P:Program} {w:World} {K:W.Frag} {mg:Str->Option Value} {base:Heap} {CX:CXT} {k:Nat} {f:Addr} {fd:FuncData} {ps:List Str} {sp sp':Sp} (F:zcn P w K mg base CX k f fd ps sp)
  (h:∀ vs H Q E,sp' vs H Q E->sp vs H (fun v H'=>Same H H'/\Q v H) E):zcn P w K mg base CX k f fd ps sp' where
 len:=fun vs H Q E q=>F.len _ _ _ _ (h _ _ _ _ q)
 run:=fun A outer s H args us vs Q E hr e0 hb hv hs=>by
  refine codeAny_mono (F.run A outer s H args us vs _ E hr e0 hb hv (h _ _ _ _ hs)) fun r s' q=>?_
  cases r with
  | error e=>exact q
  | ok fl =>
   cases fl with
   | ret u =>
    obtain ⟨v,H',os,bare,un,hok,rv,sm,qv⟩:=q
    exact ⟨v,H,os,bare,un.forget,e0.hok.forget hok sm,rv,qv⟩
   | next=>exact q
   | brk=>exact q
   | cont=>exact q
structure Src (K:W.Frag) (mg:Str->Option Value) (x:Str) (st:Stmt) (ps:List Str):Prop where
 ex:∃ (f:Addr) (fd:FuncData),Fun K x x st f fd/\mg x=some (.ref f)/\∀ us:List Value,us.length=ps.length->bindArgs fd ⟨us,[]⟩=pure (ps.zip us)
structure Def (P:Program) (w:World) (K:W.Frag) (mg:Str->Option Value) (base:Heap) (k:Nat) (x:Str) (ps:List Str) (sp:Sp):Prop where
 ex:∃ (f:Addr) (fd:FuncData),zcn P w K mg base CX0 k f fd ps sp/\mg x=some (.ref f)/\PySem.W.keepIn K (.ref f)=true/\(∀ us:List Value,us.length=ps.length->bindArgs fd ⟨us,[]⟩=pure (ps.zip us)) /\
  ∃ o,K.lookup f=some o/\o.data=.func fd
section
variable {P:Program} {w:World} {K:W.Frag} {mg:Str->Option Value} {base:Heap} {x:Str} {st:Stmt} {N ps:List Str} {k:Nat} {sp:Sp}
theorem Src.ok (S:Src K mg x st ps) (sc:zj N ps (zh st)) (len:∀ vs H Q E,sp vs H Q E->vs.length=ps.length)
  (hbody:∀ (f:Addr) (cdv:Value) (A:Around) (outer:List Env) (s:Shared) (H:Hp) (vs:List V) (Q:VK) (E:XK),Room k (A.deeper (envOfC x (zh st) s.heap.objs.size f cdv))->sp vs H Q E ->
   ∃ t,PSs (zgp CX0 P w K mg base N x (zh st) f cdv A outer s H E).nox (zaX st) t/\t { nx:=fun _ H'=>Q .non H',rt:=Q } (start N vs) H):Def P w K mg base (k+1) x ps sp:=by
 obtain ⟨f,fd,F,hm,hb⟩:=S.ex
 refine ⟨f,fd,F.ok sc len (fun cdv=>hbody f cdv),hm,F.kp,hb,?_⟩
 obtain ⟨oc,od,kV,doc,pm,an,cdv,ct,osl,e,lk,hcd⟩:=F.ex
 exact ⟨_,lk,rfl⟩
theorem Src.okF (S:Src K mg x st ps) (sc:zj N ps (zh st)) (len:∀ vs H Q E,sp vs H Q E->vs.length=ps.length)
  (hbody:∀ (f:Addr) (cdv:Value) (A:Around) (outer:List Env) (s:Shared) (H:Hp) (vs:List V) (Q:VK) (E:XK),Room k (A.deeper (envOfC x (zh st) s.heap.objs.size f cdv))->sp vs H Q E ->
   ∃ t,PSs (zgp CX0 P w K mg base N x (zh st) f cdv A outer s H E).nox (zaX st) t/\t { nx:=fun _ H'=>Same H H'/\Q .non H,rt:=fun v H'=>Same H H'/\Q v H } (start N vs) H):Def P w K mg base (k+1) x ps sp:=by
 obtain ⟨f,fd,F,hm,hb⟩:=S.ex
 have G:zcn P w K mg base CX0 (k+1) f fd ps (fun vs H R E=>∃ Q,sp vs H Q E/\R=fun v H'=>Same H H'/\Q v H) :=
  F.ok sc (fun vs H R E ⟨Q,h,_⟩=>len vs H Q E h) fun cdv A outer s H vs R E hr ⟨Q,h,e⟩=>by
   subst e
   exact hbody f cdv A outer s H vs Q E hr h
 refine ⟨f,fd,G.forget fun vs H Q E h=>⟨Q,h,rfl⟩,hm,F.kp,hb,?_⟩
 obtain ⟨oc,od,kV,doc,pm,an,cdv,ct,osl,e,lk,hcd⟩:=F.ex
 exact ⟨_,lk,rfl⟩
theorem zE {h:Heap} {f:Addr} {oc:Value} {od an:Option Addr} {osl:Array (Option Value)} {kV doc pm cdv ct:Value} (X:K.In h) (G:h.Ns mainGlobals mg) (a:PySem.W.nsIn K mainGlobals x=some (some (.ref f)))
  (l:K.lookup f=some ⟨oc,od,.func (PySem.W.fnOf x x (zcI st) (zaX st) (zh st) .none kV doc pm an cdv ct),osl⟩) (c:PySem.W.codeIn K cdv x=true) (k:PySem.W.keepIn K (.ref f)=true)
  (hb:∀ us:List Value,us.length=ps.length->bindArgs (PySem.W.fnOf x x (zcI st) (zaX st) (zh st) .none kV doc pm an cdv ct) ⟨us,[]⟩=pure (ps.zip us)):Src K mg x st ps :=
 ⟨f,_,zp0 l c k,PySem.W.mg_of X G a,hb⟩
theorem zgb {h:Heap} {i:Int} {t:Tok} (X:K.In h) (G:h.Ns mainGlobals mg) (a:PySem.W.nsIn K mainGlobals x=some (some (.int i t))):∃ t,mg x=some (.int i t):=⟨t,PySem.W.mg_of X G a⟩
theorem zwk {h:Heap} {p:Addr} {od:Option Addr} {its:Array Value} {n:Nat} {sl:Array (Option Value)} {xs:List V} (X:K.In h) (G:h.Ns mainGlobals mg) (a:PySem.W.nsIn K mainGlobals x=some (some (.ref p)))
  (l:K.lookup p=some ⟨.type "tuple", od,.seq its n,sl⟩) (r:Vals xs its.toList) (z:its.size<=sizeLine):∃ a,mg x=some (.ref a)/\∀ H,SqT K H a xs :=
 ⟨p,PySem.W.mg_of X G a,fun H=>.inr ⟨_,its,n,l,rfl,rfl,z,r⟩⟩
end
theorem zuo {l:PySem.W.OpenLaw} {lv:Nat} {q:Program} {loose:List Str} {XP:(Str->Option Value)->Heap->Prop} {YP:World->Heap->Prop} {d:DefRec} {K:Params->W.Frag} {sp:W.Frag->Sp} {x:Str} {st:Stmt}
  (hn:l.most=some 63) (hdf:d.params.defaults=[]) (hnm:d.name = "law") (hr:Room lv callerA)
  (hY:∀ (w:World) (h:Heap),YP w h->(K w.params).In h)
  (F:∀ (w:World) (mg:Str->Option Value) (h:Heap),(K w.params).In h->h.Ns mainGlobals mg ->
   Src (K w.params) mg "law" st [x]/\∀ base:Heap,Def l.prog w (K w.params) mg base lv "law" [x] (sp (K w.params)))
  (hsp:∀ (K:W.Frag) (H:Hp) (a:Addr) (ns:List Int),ns.length<=63->SqL K H a (ns.map V.int)->sp K [.ref a] H (fun v _=>v=.bl true) fun _ _ _=>False) :
  PySem.W.WalkO q loose XP YP l.row.toRowW d [] (fun f vs=>PySem.call f vs):=by
 refine L2.zvD (n:=63) (k:=lv) (x:=x) (CX:=fun _=>CX0) (sp:=fun w=>sp (K w.params)) hn (by decide) hdf hr hY ?_ (fun w H a ns h1 h2 h3=>hsp (K w.params) H a ns h1 h3) fun _ _ _ _ _ z=>z
 intro w mg fa h KX G hmg
 obtain ⟨S,D⟩:=F w mg h KX G
 obtain ⟨f,fd,Fn,hm,hb⟩:=S.ex
 obtain ⟨oc,od,kV,doc,pm,an,cdv,ct,osl,e,lk,hcd⟩:=Fn.ex
 refine ⟨fd,fun s u=>.of_eq (hb [u] rfl),fun base _ _=>?_⟩
 obtain ⟨f',fd',ok,hm',_,_,o,lk',ho⟩:=(D base).ex
 rw[hnm,hm] at hmg
 rw[hm] at hm'
 cases hmg
 cases hm'
 rw[lk] at lk'
 cases lk'
 cases ho
 exact ok
section
variable {X:Cx} {x:Str} {p pos:Pos} {e:Expr} {es:List Expr} {t:TA} {j k:Nat} {ps:List Str} {sp:Sp}
theorem zt (D:Def X.prog X.w X.K X.mg X.base j x ps sp) (hr:Room k X.A) (ha:PA X (e::es) t) (hg:Gl X x:=by rfl) (hj:j<=k:=by decide) (hdb:(x == ("__debug__" : Str))=false:=by decide)
  (he:starEach (e::es) X.env=(false,eval e X.env)::starEach es X.env:=by rfl) (hpl:(backTo pos (starEach es X.env)).any (·.1)=false:=by rfl) :
  PE X (.Call (.Name x p) (e::es) [] pos) (zrS sp [] E0 t):=by
 obtain ⟨f,fd,F,hm,hk,hb,_⟩:=D.ex
 exact zv2 F (hr.mono hj) hg hm hk (.all hb) .nil zhl ha hdb he hpl
theorem zcK {i:Int} (h:∃ t,X.mg x=some (.int i t)) (hg:Gl X x:=by rfl) (hd:(x == ("__debug__" : Str))=false:=by decide):PE X (.Name x pos) (tC (.int i)):=by
 obtain ⟨t,h⟩:=h
 exact zf9 hg h ⟨t,rfl⟩ hd
def tGT (K:W.Frag) (xs:List V):TE:=fun _ H Q=>∀ a,(∀ H,SqT K H a xs)->Q (.ref a) H
theorem zwc {xs:List V} (h:∃ a,X.mg x=some (.ref a)/\∀ H,SqT X.K H a xs) (hg:Gl X x:=by rfl) (hd:(x == ("__debug__" : Str))=false:=by decide):PE X (.Name x pos) (tGT X.K xs):=by
 obtain ⟨a,h,hs⟩:=h
 intro pins s σ H Q I hq
 exact zf9 (v:=.ref a) hg h rfl hd pins s σ H Q I (hq a hs)
theorem zk1:zbh X (.builtin "isinstance") (fun xs H Q=>∃ x t n b,xs=[x,.ty n]/\zdg X.K H x t/\PySem.W.kitOne X.K t (.type n)=some b/\Q (.bl b) H):=by
 intro pins s σ H xs us Q I r h
 obtain ⟨x,t,n,b,rfl,ty,e,q⟩:=h
 obtain ⟨u,w',rfl,rx,rn⟩:=vals2 r
 cases rn
 exact znr I rx ty e fun tk=>⟨.bl b,H,I.tok tk,rfl,q⟩
end
theorem ifI {a b:Int} {A B:Prop} (h1:a=b->A) (h2:¬ a=b->B):if decide (V.int a=V.int b)=true then A else B:=by
 by_cases h:a=b
 ·rw[if_pos (by rw[h];simp)];exact h1 h
 ·rw[if_neg (by simpa using h)];exact h2 h
theorem zxZ {a b:Int} {A B:Prop} (h1:¬ a=b->A) (h2:a=b->B):if (!decide (V.int a=V.int b))=true then A else B:=by
 by_cases h:a=b
 ·rw[if_neg (by rw[h];simp)];exact h2 h
 ·rw[if_pos (by simpa using h)];exact h1 h
theorem ifD {p A B:Prop} [Decidable p] (h1:p->A) (h2:¬ p->B):if decide p=true then A else B:=by
 by_cases h:p
 ·rw[if_pos (by simpa using h)];exact h1 h
 ·rw[if_neg (by simpa using h)];exact h2 h
theorem ifB {c:Bool} {A B:Prop} (h1:c=true->A) (h2:c=false->B):if c=true then A else B:=by
 cases c with
 | true=>rw[if_pos rfl];exact h1 rfl
 | false=>rw[if_neg Bool.false_ne_true];exact h2 rfl
theorem dI {a b:Int}:decide (V.int a=V.int b)=decide (a=b):=by
 by_cases h:a=b <;> simp[h]
def zys (t:TS):TS:=fun D σ H=>∃ Mid:St->Hp->Prop,t { D with nx:=Mid } σ H/\∀ σ' H',Mid σ' H'->D.nx σ' H'
theorem zjX {X:Cx} {st:Stmt} {t:TS} (h:PS X st t):PS X st (zys t):=by
 intro pins s σ H D I ⟨Mid,hq,hm⟩
 refine thn (h pins s σ H _ I hq) fun f s' q=>?_
 cases f with
 | next =>
  obtain ⟨σ',H',I',q⟩:=q
  exact ⟨σ',H',I',hm σ' H' q⟩
 | ret v=>exact q
 | brk=>exact q
 | cont=>exact q
theorem noE {α:Type} {M:Model} {A:Around} {s:Shared} {t:Sem α} {Q:α->Shared->Prop} {E:Value->Shared->Prop} (h:wpAny M A t Q (fun _ _=>False) s):wpAny M A t Q E s:=wpAny_mono h (fun _ _ q=>q) fun _ _ z=>z.elim
section
variable {prog:Program} {w:World} {A:Around} {R:Result->Shared->Prop} {s:Shared}
theorem zsP {elt target iter:Expr} {scope:Scope} {pos:Pos} {it acc:Value} {env:Env} (I:Nat->Shared->Prop)
  (turn:∀ n s,I n s->wpAny (model prog w) A (pyNext it) (fun r s₁=>match r with
   | none=>R (.ok .next) s₁
   | some v=>wpAny (model prog w) A (letOwnedTupleGo target it v) (fun _ s₂=>wpAny (model prog w) A (assign target env v) (fun _ s₃=>wpAny (model prog w) A (eval elt env) (fun y s₄ =>
     wpAny (model prog w) A (call (.builtin "list.append") [acc,y]) (fun _ s₅=>∃ m,m<n/\I m s₅) (fun _ _=>False) s₄) (fun _ _=>False) s₃) (fun _ _=>False) s₂) (fun _ _=>False) s₁) (fun _ _=>False) s)
  (n:Nat) (h:I n s):codeAny (model prog w) A (.compLoop (.ListComp elt [⟨target,iter,[],0⟩] scope pos) 0 it acc env) R s:=by
 refine codeAny_loop rfl I (fun n s hI=>?_) n h
 show wpAny _ _ (Sem.onRaise (compTurn (.ListComp elt [⟨target,iter,[],0⟩] scope pos) 0 it acc env) _) _ _ s
 refine wpAny_noted (noE ?_)
 rw[compTurn_list1]
 refine wpAny_bind (wpAny_standAt (wpAny_bind (wpAny_mono (turn n s hI) (fun r s₁ h₁=>?_) fun _ _ z=>z)))
 cases r with
 | none=>exact wpAny_pure h₁
 | some v =>
  refine wpAny_bind (wpAny_mono h₁ (fun _ s₂ h₂=>?_) fun _ _ z=>z)
  refine wpAny_bind (wpAny_mono h₂ (fun _ s₃ h₃=>?_) fun _ _ z=>z)
  refine wpAny_bind (wpAny_bind (wpAny_mono h₃ (fun y s₄ h₄=>?_) fun _ _ z=>z))
  refine wpAny_bind (wpAny_mono h₄ (fun _ s₅ h₅=>?_) fun _ _ z=>z)
  exact wpAny_pure (wpAny_pure ⟨rfl,h₅⟩)
theorem zgF {elt target iter c:Expr} {scope:Scope} {pos:Pos} {it acc:Value} {env:Env} (I:Nat->Shared->Prop)
  (turn:∀ n s,I n s->wpAny (model prog w) A (pyNext it) (fun r s₁=>match r with
   | none=>R (.ok .next) s₁
   | some v=>wpAny (model prog w) A (letOwnedTupleGo target it v) (fun _ s₂=>wpAny (model prog w) A (assign target env v) (fun _ s₃=>wpAny (model prog w) A (isTrue c env (eval c env)) (fun b s₄ =>
     if b=true then wpAny (model prog w) A (eval elt env) (fun y s₅ =>
      wpAny (model prog w) A (call (.builtin "list.append") [acc,y]) (fun _ s₆=>∃ m,m<n/\I m s₆) (fun _ _=>False) s₅) (fun _ _=>False) s₄
     else ∃ m,m<n/\I m s₄) (fun _ _=>False) s₃) (fun _ _=>False) s₂) (fun _ _=>False) s₁) (fun _ _=>False) s)
  (n:Nat) (h:I n s):codeAny (model prog w) A (.compLoop (.ListComp elt [⟨target,iter,[c],0⟩] scope pos) 0 it acc env) R s:=by
 refine codeAny_loop rfl I (fun n s hI=>?_) n h
 show wpAny _ _ (Sem.onRaise (compTurn (.ListComp elt [⟨target,iter,[c],0⟩] scope pos) 0 it acc env) _) _ _ s
 refine wpAny_noted (noE ?_)
 rw[compTurn_list]
 refine wpAny_bind (wpAny_standAt (wpAny_bind (wpAny_mono (turn n s hI) (fun r s₁ h₁=>?_) fun _ _ z=>z)))
 cases r with
 | none=>exact wpAny_pure h₁
 | some v =>
  refine wpAny_bind (wpAny_mono h₁ (fun _ s₂ h₂=>?_) fun _ _ z=>z)
  refine wpAny_bind (wpAny_mono h₂ (fun _ s₃ h₃=>?_) fun _ _ z=>z)
  simp only[List.forIn_cons,List.forIn_nil,if_true,bind_assoc,pure_bind]
  refine wpAny_bind (wpAny_mono h₃ (fun b s₄ h₄=>?_) fun _ _ z=>z)
  cases b with
  | true =>
   simp only[if_true] at h₄ ⊢
   refine wpAny_bind (wpAny_mono h₄ (fun y s₅ h₅=>?_) fun _ _ z=>z)
   refine wpAny_bind (wpAny_mono h₅ (fun _ s₆ h₆=>?_) fun _ _ z=>z)
   exact wpAny_pure ⟨rfl,h₆⟩
  | false =>
   simp only[Bool.false_eq_true,if_false] at h₄ ⊢
   exact wpAny_pure ⟨rfl,h₄⟩
end
noncomputable def zaH (sc:Scope) (env:Env):List (Str × Addr):=(sc.names.filterMap fun p=>if p.2 == .free then (env.cells.lookup p.1).map fun c=>(p.1,c) else none).reverse
structure Blk where
 C:Addr
 s:Shared
 H:Hp
 pn:List (Addr × Obj)
 ex:List Addr
noncomputable def Cx.block (X:Cx) (sc:Scope) (x:Str) (ix:List Nat) (b:Blk):Cx where
 prog:=X.prog
 w:=X.w
 K:=X.K
 mg:=X.mg
 base:=X.base
 A:=X.A
 N:=x::ix.map fun i=>X.N.getD i x
 s₀:=b.s
 H₀:=b.H
 env:=compEnvC sc (zaH sc X.env) b.C X.env
 outer:=X.stack
 stack:=X.stack
 ex:=b.ex
 fn:=fun _=>false
 calm:=X.calm
 pn:=b.pn
 xe:=fun _ _=>False
noncomputable def capts (σ:St) (ix:List Nat):St:=ix.map fun i=>σ.getD i none
def zvd (X:Cx) (sc:Scope) (x:Str) (i:Nat):Prop :=
 (X.env.kindOf (X.N.getD i x)=some .cell\/X.env.kindOf (X.N.getD i x)=some .free)/\((relabel sc X.env).names.lookup (X.N.getD i x)=some .cell\/(relabel sc X.env).names.lookup (X.N.getD i x)=some .free) /\
  (zaH sc X.env).lookup (X.N.getD i x)=X.env.cells.lookup (X.N.getD i x)
noncomputable def zgz (X:Cx) (sc:Scope) (x:Str):List Nat->Prop
 | []=>True
 | i::r=>zvd X sc x i/\zgz X sc x r
theorem zgz.get {X:Cx} {sc:Scope} {x:Str}:∀ {ix:List Nat},zgz X sc x ix->∀ i∈ix,zvd X sc x i
 | [],_,_,h=>nomatch h
 | _::_,h,_,hi=>(yak.mp hi).elim (fun e=>e ▸ h.1) fun z=>zgz.get h.2 _ z
noncomputable def zje (cells:List (Str × Addr)):List (Str × Addr)->Prop
 | []=>True
 | p::r=>cells.lookup p.1=some p.2/\zje cells r
theorem zje.get {cells:List (Str × Addr)}:∀ {cl:List (Str × Addr)},zje cells cl->∀ y c,cl.lookup y=some c->cells.lookup y=some c
 | [],_,_,_,h=>by simp at h
 | p::r,h,y,c,e=>by
  rw[List.lookup_cons] at e
  cases q:y == p.1 with
  | true =>
   rw[q] at e
   have e1:p.2=c:=Option.some.inj e
   rw[eq_of_beq q,<-e1]
   exact h.1
  | false =>
   rw[q] at e
   exact zje.get h.2 y c e
noncomputable def zi4 (cl:List (Str × Addr)):List (Str × NameKind)->Prop
 | []=>True
 | p::r=>(p.2=.cell\/p.2=.free->∃ c,cl.lookup p.1=some c)/\zi4 cl r
theorem zi4.get {cl:List (Str × Addr)}:∀ {ns:List (Str × NameKind)},zi4 cl ns->∀ p∈ns,p.2=.cell\/p.2=.free->∃ c,cl.lookup p.1=some c
 | [],_,_,h=>nomatch h
 | _::_,h,_,hp=>(yak.mp hp).elim (fun e=>e ▸ h.1) fun z=>zi4.get h.2 _ z
structure zfo (X:Cx) (sc:Scope) (x:Str) (ix:List Nat):Prop where
 clos:closureFor sc X.env=pure (zaH sc X.env)
 cell:∀ y∈sc.names,y.2≠.cell
 kind:sc.kind=.function
 names:∀ y∈sc.names,y.2=.local->sc.names.lookup y.1=some .local
 var:sc.names.lookup x=some .local
 nd:(x::ix.map fun i=>X.N.getD i x).Nodup
 cap:zgz X sc x ix
 sub:zje X.env.cells (zaH sc X.env)
 has:zi4 (zaH sc X.env) (relabel sc X.env).names
section
variable {X:Cx} {pins:List (Addr × Obj)} {σ:St} {H:Hp} {s:Shared} {sc:Scope} {x:Str} {ix:List Nat} {fp:List Addr}
theorem zuZ (I:Inv X pins σ H s) (O:zfo X sc x ix) (hf:∀ b∈fp,zaL X pins H b) (hx:∀ b∈fp,∃ o,s.heap.get? b=some o):(X.block sc x ix ⟨s.heap.objs.size,s,H,X.pn++pins,fp⟩).Ok where
 mod:=I.ok.mod
 kind:=O.kind
 glob:=I.ok.glob
 blt:=I.ok.blt
 above:=ycz _
 inj:=fun y z c h1 h2=>I.ok.inj y z c (O.sub.get y c h1) (O.sub.get z c h2)
 has:=fun y h=>by
  have h':(relabel sc X.env).names.lookup y=some .cell\/(relabel sc X.env).names.lookup y=some .free:=h
  rcases h' with h' | h'
  ·exact O.has.get _ (PySem.mem_of_lookup h') (.inl rfl)
  ·exact O.has.get _ (PySem.mem_of_lookup h') (.inr rfl)
 cab:=fun _ _ h=>absurd (show false=true from h) Bool.false_ne_true
 hd:=I.ok.hd
 frames:=I.ok.frames
 stk:=.inl rfl
 exf:=fun b hb=>by
  obtain ⟨o,e⟩:=hx b hb
  exact ⟨yda (ydq e),fun y c h=>(hf b hb).2.2.2.2.1 y c (O.sub.get y c h)⟩
 bs:=I.bs
 bsz:=yde I.ok.bsz I.sz
 noex:=fun b o e hb=>by
  rcases (hf b hb).2.2.2.1 with z | z
  ·exact I.ok.noex b o e z
  ·exact absurd (ydd (ydq e) (yde I.ok.bsz z)) (ydf _)
 exfs:=fun b hb z=>(yak.mp (I.zcf b z)).elim (hf b hb).2.1 (hf b hb).2.2.1
 funs:=I.stack
 frf:=I.zkL
theorem znz {h₁:Heap} {m:Str->Option Value} {tk:Nat} (I:Inv X pins σ H s) (O:zfo X sc x ix) (hf:∀ b∈fp,zaL X pins H b) (hx:∀ b∈fp,∃ o,s.heap.get? b=some o)
  (hn:h₁.Ns s.heap.objs.size m) (keep:∀ b o,s.heap.get? b=some o->h₁.get? b=some o) :
  Inv (X.block sc x ix ⟨s.heap.objs.size,s,H,X.pn++pins,fp⟩) [] (none::capts σ ix) H { s with heap:=h₁,toks:=tk }:=by
 refine ⟨zuZ I O hf hx,rfl,I.bare,Un.kept keep,⟨m,hn,fun i y v e1 e2 _=>?_⟩,fun y c h=>?_,I.hok.fresh (ycz _),fun y c h=>I.freeC y c (O.sub.get y c h),fun p hp=>?_,I.hok.kept keep,?_⟩
 ·cases i with
  | zero=>cases e2
  | succ j =>
   have e1':(ix.map fun i=>X.N.getD i x)[j]?=some y:=e1
   have e2':(capts σ ix)[j]?=some (some v):=e2
   unfold capts at e2'
   rw[yaj] at e1' e2'
   cases q:ix[j]? with
   | none=>rw[q] at e1';cases e1'
   | some i =>
    rw[q] at e1' e2'
    have e3:X.N.getD i x=y:=Option.some.inj e1'
    have e4:σ.getD i none=some v:=Option.some.inj e2'
    obtain ⟨c1,c2,c3⟩:=O.cap.get i (yae q)
    rw[e3] at c1 c2 c3
    have e5:σ[i]?=some (some v):=by
     rw[yad] at e4
     cases z:σ[i]? with
     | none=>rw[z] at e4;cases e4
     | some a=>rw[z] at e4;exact congrArg some e4
    have hl:i<X.N.length:=by
     rw[<-I.len]
     exact (yac.mp e5).1
    have e6:X.N[i]?=some y:=by
     rw[yad,yaa hl] at e3
     rw[yaa hl]
     exact congrArg some e3
    obtain ⟨m0,_,l0⟩:=I.loc
    have vis:Vis X.env.scope y:=by
     rcases c1 with z | z
     ·exact .inr (.inl z)
     ·exact .inr (.inr z)
    obtain ⟨u,ru,lu⟩:=l0 i y v e6 e5 vis
    refine ⟨u,ru,?_⟩
    rcases lu with ⟨k,_⟩ | ⟨_,c,hc,o,ho,hd⟩
    ·rcases c1 with z | z
     ·rw[z] at k;cases k
     ·rw[z] at k;cases k
    ·exact .inr ⟨c2,c,c3.trans hc,o,keep c o ho,hd⟩
 ·obtain ⟨v,o,ho,hd⟩:=I.cell y c (O.sub.get y c h)
  exact ⟨v,o,keep c o ho,hd⟩
 ·have hp':p∈X.pn++pins:=by
   rcases yaf.mp hp with z | z
   ·exact z
   ·cases z
  obtain ⟨e,n,ne,nf,d⟩:=I.pin p hp'
  exact ⟨keep _ _ e,n,yda (ydq e),fun z=>(yak.mp (I.zcf _ z)).elim ne nf,d⟩
 ·show (none::capts σ ix).length=(x::ix.map fun i=>X.N.getD i x).length
  simp[capts]
theorem zl3 {pins':List (Addr × Obj)} {σ':St} {H':Hp} {s':Shared} (I:Inv X pins σ H s) (hf:∀ b∈fp,zaL X pins H b) (J:Inv (X.block sc x ix ⟨s.heap.objs.size,s,H,X.pn++pins,fp⟩) pins' σ' H' s'):Inv X pins σ H' s' :=
 I.call' J.os J.base J.hok J.bare fun b hb=>⟨(hf b hb).2.2.2.1,(hf b hb).2.1,(hf b hb).2.2.2.2.1,(hf b hb).2.2.2.2.2⟩
theorem Inv.addpin {b:Addr} {o:Obj} (I:Inv X pins σ H s) (e:s.heap.get? b=some o) (hn:H b=none) (hL:b≠X.env.locals) (hf:b ∉ X.fs) (hd:∀ v,o.data≠.cell v):Inv X (pins++[(b,o)]) σ H s :=
 I.zmS fun p hp=>(yaf.mp hp).elim (fun z=>I.pin p (yag _ z)) fun z=>by
  have e':p=(b,o):=by simpa using z
  subst e'
  exact ⟨e,hn,hL,hf,hd⟩
end
def Turns (ix:List Nat) (te:TE) (σ:St) (J:It) (l:Addr) (R:Hp->Prop) (W:Nat->Nat->List V->Hp->Prop):Prop :=
 ∀ i m xs H',W i m xs H'->H' l=some (.lst xs)/\((J.stop i H'/\R H')\/(J.go i H'/\xs.length<sizeLine/\∀ x H2,J.yld i H' x H2 ->
  te (some x::capts σ ix) H2 fun v H3=>H3 l=some (.lst xs)/\∃ m',m'<m/\W (i+1) m' (xs++[v]) (upd H3 l (.lst (xs++[v])))))
def zvr (ix:List Nat) (wi:TI) (te:TE):TE:=fun σ H Q=>wi σ H fun J H1=>∀ l,H1 l=none->∃ W:Nat->Nat->List V->Hp->Prop,(∃ m,W 0 m [] (upd H1 l (.lst [])))/\Turns ix te σ J l (Q (.ref l)) W
section
variable {X:Cx} {pins:List (Addr × Obj)} {σ:St} {H:Hp} {s:Shared} {sc:Scope} {x:Str} {ix:List Nat} {fp:List Addr} {elt iter:Expr} {te:TE} {wi:TI} {px pos:Pos}
theorem znC {it:Addr} {tn:Nat->Heap->Prop} {J:It} {use:Option (Value->Sem Unit)} {Q:Value->Shared->Prop} {E:Value->Shared->Prop} (O:zfo X sc x ix) (hel:∀ b,PE (X.block sc x ix b) elt te) (hc:X.calm=true)
  (I:Inv X pins σ H s) (T:Turn X.prog X.w X.K (.Name x px) J fp it tn) (st:tn 0 s.heap) (hf:∀ b∈fp,zaL X pins H b) (R:Addr->Hp->Prop)
  (h:∀ l,H l=none->∃ W:Nat->Nat->List V->Hp->Prop,(∃ m,W 0 m [] (upd H l (.lst [])))/\Turns ix te σ J l (R l) W)
  (fin:∀ l C m s' H',Inv X pins σ H' s'->s'.heap.Ns C m->zaL X pins H' C->R l H'->compPost (model X.prog X.w) X.A E use Q (.ref l) C (.ok .next) s') :
  wpAny (model X.prog X.w) X.A (newList []) (fun acc s₃=>wpAny (model X.prog X.w) X.A (newFunctionEnv sc X.env.globals (zaH sc X.env) [] X.env.qual none .none (some X.env)) (fun cenv s₄ =>
   codeAny (model X.prog X.w) X.A (.compStart (.ListComp elt [⟨.Name x px,iter,[],0⟩] sc pos) 0 (.ref it) acc { cenv with scope:=relabel sc X.env }) (compPost (model X.prog X.w) X.A E use Q acc cenv.locals) s₄) E s₃) E s:=by
 refine wpAny_newObj_type (wpAny_newFunctionEnv O.cell (by intro y hy;simp at hy) (fun h₁ hns hsb=>?_) O.kind)
 dsimp only at hns hsb ⊢
 have hl0:H s.heap.objs.size=none:=I.hok.fresh (ycz _)
 obtain ⟨W,⟨m0,w0⟩,tr⟩:=h s.heap.objs.size hl0
 have I3:Inv X pins σ (upd H s.heap.objs.size (.lst [])) { s with heap:=s.heap.push { cls:=.type "list", dict:=none,data:=.seq ([]:List Value).toArray } } :=
  I.laid (t':=s.toks) (fun b o e=>ydp _ e) (ycz _) ⟨ydb _,[],0,.nil,ydr _ rfl⟩
 have ofp:∀ b∈fp,∃ o,s.heap.get? b=some o:=fun b hb=>by
  obtain ⟨o,e,_⟩:=T.obj 0 _ st b hb
  exact ⟨o,e⟩
 generalize e3:s.heap.push { cls:=.type "list", dict:=none,data:=.seq ([]:List Value).toArray }=G at I3 hns hsb ⊢
 have ofp3:∀ b∈fp,∃ o,G.get? b=some o:=fun b hb=>by
  obtain ⟨o,e⟩:=ofp b hb
  exact ⟨o,by rw[<-e3];exact ydp _ e⟩
 have nl:∀ b∈fp,b≠s.heap.objs.size:=fun b hb=>by
  obtain ⟨o,e⟩:=ofp b hb
  exact yda (ydq e)
 have hf3:∀ b∈fp,zaL X pins (upd H s.heap.objs.size (.lst [])) b:=fun b hb=>⟨by rw[zr (nl b hb)];exact (hf b hb).1,(hf b hb).2⟩
 have keep3:∀ b o,G.get? b=some o->h₁.get? b=some o:=fun b o e=>hsb.extBut b o (yda (ydq e)) (ydp _ e)
 have stk:tn 0 h₁:=T.keep _ _ _ st fun b hb o e=>keep3 b o (by rw[<-e3];exact ydp _ e)
 have J0:=znz (tk:=s.toks+([]:List (Str × Value)).length) I3 O hf3 ofp3 hns keep3
 have stat:∀ {H':Hp},(∀ b∈fp,H' b=none)->∀ b∈fp,zaL (X.block sc x ix ⟨G.objs.size,{ s with heap:=G },upd H s.heap.objs.size (.lst []),X.pn++pins,fp⟩) [] H' b:=fun hn b hb=>by
  obtain ⟨o,e⟩:=ofp3 b hb
  refine ⟨hn b hb,yda (ydq e),fun z=>(yak.mp (I3.zcf _ z)).elim (hf b hb).2.1 (hf b hb).2.2.1,.inl hb,fun y c q=>(hf b hb).2.2.2.2.1 y c (O.sub.get y c q),fun p hp=>?_⟩
  have hp':p∈X.pn++pins:=by
   rcases yaf.mp hp with z | z
   ·exact z
   ·cases z
  exact (hf b hb).2.2.2.2.2 p hp'
 have loop:∀ s4:Shared,s4={ s with heap:=h₁,toks:=s.toks+([]:List (Str × Value)).length } ->
   codeAny (model X.prog X.w) X.A (.compLoop (.ListComp elt [⟨.Name x px,iter,[],0⟩] sc pos) 0 (.ref it) (.ref s.heap.objs.size) (compEnvC sc (zaH sc X.env) G.objs.size X.env))
    (compPost (model X.prog X.w) X.A E use Q (.ref s.heap.objs.size) G.objs.size) s4:=by
  rintro s4 rfl
  refine zsP (fun n s'=>∃ i xs H' z,Inv (X.block sc x ix ⟨G.objs.size,{ s with heap:=G },upd H s.heap.objs.size (.lst []),X.pn++pins,fp⟩) [] (z::capts σ ix) H' s'/\tn i s'.heap/\(∀ b∈fp,H' b=none)/\W i n xs H') ?_ m0
   ⟨0,[],_,none,J0,stk,fun b hb=>(hf3 b hb).1,w0⟩
  rintro n s5 ⟨i,xs,H5,z,I5,st5,fr5,w5⟩
  obtain ⟨hl5,h5⟩:=tr i n xs H5 w5
  rcases h5 with ⟨stop,r5⟩ | ⟨go,hz,step⟩
  ·refine thn (T.done (X.block sc x ix ⟨G.objs.size,{ s with heap:=G },upd H s.heap.objs.size (.lst []),X.pn++pins,fp⟩) rfl rfl rfl hc i [] s5 _ H5 _ I5 (stat fr5) st5 stop) fun r s6 ⟨hr,I6⟩=>?_
   subst hr
   obtain ⟨m6,hn6,_⟩:=I6.loc
   refine fin _ _ m6 s6 H5 (zl3 I3 hf3 I6) hn6 ?_ r5
   exact I3.zm1 (ycz _) I6.free
  ·refine thn (T.item (X.block sc x ix ⟨G.objs.size,{ s with heap:=G },upd H s.heap.objs.size (.lst []),X.pn++pins,fp⟩) rfl rfl rfl hc i [] s5 _ H5 _ I5 (stat fr5) st5 go) fun r s6 ⟨u,hr,h6⟩=>?_
   subst hr
   refine thn h6 fun _ s7 ⟨y,H7,I7,r7,y7,st7,fr7⟩=>?_
   have I7':=I7.pinned (stat fr7) (T.obj _ _ st7)
   have lx:(relabel sc X.env).names.lookup x=some .local:=lookup_relabel_local O.var
   refine thn ((zC (i:=0) O.nd rfl (Or.inl lx) (Or.inr lx):PG (X.block sc x ix ⟨G.objs.size,{ s with heap:=G },upd H s.heap.objs.size (.lst []),X.pn++pins,fp⟩) (.Name x px) (zb9 0)) _ s7 _ H7 y u (fun σ' H'=>σ'=some y::capts σ ix/\H'=H7) I7' r7 ⟨rfl,rfl⟩) fun _ s8 ⟨σ8,H8,I8,e8,e8'⟩=>?_
   subst e8 e8'
   refine thn (hel _ _ s8 _ H8 _ I8 (step y H8 y7)) fun v9 s9 ⟨v,H9,I9,r9,hl9,m',hm,w9⟩=>?_
   refine thn (za7 _ s9 _ H9 (.ref s.heap.objs.size) [v] (.ref s.heap.objs.size) [v9] (fun _ H'=>H'=upd H9 s.heap.objs.size (.lst (xs++[v]))) I9 rfl (.cons r9 .nil) ⟨_,xs,v,rfl,rfl,hl9,hz,rfl⟩) fun _ s10 ⟨_,H10,I10,_,e10⟩=>?_
   subst e10
   refine ⟨m',hm,i+1,xs++[v],_,some y,I10.unpinned,T.keep _ _ _ st7 fun b hb o e=>(I10.pin (b,o) (yag _ (yag _ (za1 hb e)))).1,fun b hb=>?_,w9⟩
   obtain ⟨o,e,d⟩:=T.obj _ _ st7 b hb
   exact (I10.pin (b,o) (yag _ (yag _ (za1 hb e)))).2.1
 exact codeAny_compStart_list (loop _ rfl) (T.self _ 0 _ _ _ stk (loop _ rfl))
theorem zbp (O:zfo X sc x ix) (hi:PI X (.Name x px) iter wi) (hel:∀ b,PE (X.block sc x ix b) elt te) (hc:X.calm=true:=by rfl) (hs:∀ v,foldedSetIterable iter X.env v=pure v:=by intro _;rfl) :
  PE X (.ListComp elt [⟨.Name x px,iter,[],0⟩] sc pos) (zvr ix wi te):=by
 intro pins s σ H Q I h
 rw[eval_ListComp]
 refine wpAny_comprehension_free (use:=none) rfl hs O.clos O.kind O.names (thn (hi pins s σ H _ I h) fun xv s1 h1=>thn h1 fun itv s2 h2=>?_)
 obtain ⟨it,fp,tn,J,H2,e,I2,T,st2,f2,hq⟩:=h2
 subst e
 refine znC O hel hc I2 T st2 f2 (fun l H'=>Q (.ref l) H') hq ?_
 intro l C m s' H' I' hn hf r
 refine ⟨m,hn,fun h' hb=>⟨.ref l,H',?_,rfl,r⟩⟩
 exact I'.turned (t':=s'.toks) (fun b o hne e=>hb.extBut b o hne e) hf.1 hf.2.1 hf.2.2.2.1 hf.2.2.2.2.1 hf.2.2.2.2.2
theorem zrz {y:Str} {i:Nat} {py spos:Pos} (hN:X.N.Nodup) (hiy:X.N[i]?=some y) (hy:X.env.scope.names.lookup y=some .local) (O:zfo X sc x ix) (hi:PI X (.Name x px) iter wi) (hel:∀ b,PE (X.block sc x ix b) elt te)
  (hc:X.calm=true:=by rfl) (hs:∀ v,foldedSetIterable iter X.env v=pure v:=by intro _;rfl) (hsw:swapsWith (.ListComp elt [⟨.Name x px,iter,[],0⟩] sc pos) (some (.Name y py)) spos.line X.env=pure true:=by rfl) :
  PS X (.Assign [.Name y py] (.ListComp elt [⟨.Name x px,iter,[],0⟩] sc pos) spos) (zo8 (zvr ix wi te) (zb9 i)):=by
 intro pins s σ H D I h
 rw[exec_Assign_Name_used _ _ _ _ hsw]
 refine wpAny_bind (wpAny_standAt (wpAny_bind ?_))
 show wpAny _ X.A (do let _ <-comprehension (.ListComp elt [⟨.Name x px,iter,[],0⟩] sc pos) sc X.env _ (newList []) false (eval iter X.env) (some (assign (.Name y py) X.env))) _ _ s
 refine wpAny_bind (wpAny_mono (wpAny_comprehension_free (use:=some (assign (.Name y py) X.env)) (Q:=fun _ s'=>SP X pins D .next s') rfl hs O.clos O.kind O.names
  (thn (hi pins s σ H _ I h) fun xv s1 h1=>thn h1 fun itv s2 h2=>?_)) (fun _ s' hq=>wpAny_pure (wpAny_pure hq)) fun _ _ e=>e)
 obtain ⟨it,fp,tn,J,H2,e,I2,T,st2,f2,hq⟩:=h2
 subst e
 refine znC O hel hc I2 T st2 f2 (fun l H'=>D.nx (σ.set i (some (.ref l))) H') hq ?_
 intro l C m s' H' I' hn hf r
 obtain ⟨o,es,ep,ho,hd,hr⟩:=id hn
 have Ip:=I'.addpin ho hf.1 hf.2.1 hf.2.2.1 (by intro v z;rw[hd] at z;cases z)
 refine thn ((zC (i:=i) hN hiy (Or.inl hy) (Or.inr hy):PG X (.Name y py) (zb9 i)) _ s' σ H' (.ref l) (.ref l) (fun σ' H''=>σ'=σ.set i (some (.ref l))/\H''=H') Ip rfl ⟨rfl,rfl⟩) fun _ s'' ⟨σ'',H'',I'',e1,e2⟩=>?_
 subst e1 e2
 have pc:=(I''.pin (C,o) (yag _ (yag _ yas))).1
 refine ⟨m,⟨o,es,ep,pc,hd,hr⟩,fun h' hb=>⟨_,_,?_,r⟩⟩
 exact I''.unpinned.turned (t':=s''.toks) (fun b o hne e=>hb.extBut b o hne e) hf.1 hf.2.1 hf.2.2.2.1 hf.2.2.2.2.1 hf.2.2.2.2.2
end
def ziz (ix:List Nat) (tt:TT) (te:TE) (σ:St) (J:It) (l:Addr) (R:Hp->Prop) (W:Nat->Nat->List V->Hp->Prop):Prop :=
 ∀ i m xs H',W i m xs H'->H' l=some (.lst xs)/\((J.stop i H'/\R H')\/(J.go i H'/\xs.length<sizeLine/\∀ x H2,J.yld i H' x H2 ->
  tt (some x::capts σ ix) H2 fun b H3=>if b=true then te (some x::capts σ ix) H3 fun v H4=>H4 l=some (.lst xs)/\∃ m',m'<m/\W (i+1) m' (xs++[v]) (upd H4 l (.lst (xs++[v]))) else ∃ m',m'<m/\W (i+1) m' xs H3))
def zro (ix:List Nat) (wi:TI) (tt:TT) (te:TE):TE:=fun σ H Q=>wi σ H fun J H1=>∀ l,H1 l=none->∃ W:Nat->Nat->List V->Hp->Prop,(∃ m,W 0 m [] (upd H1 l (.lst [])))/\ziz ix tt te σ J l (Q (.ref l)) W
section
variable {X:Cx} {pins:List (Addr × Obj)} {σ:St} {H:Hp} {s:Shared} {sc:Scope} {x:Str} {ix:List Nat} {fp:List Addr} {elt iter c:Expr} {te:TE} {tt:TT} {wi:TI} {px pos:Pos}
theorem zk9 {it:Addr} {tn:Nat->Heap->Prop} {J:It} {use:Option (Value->Sem Unit)} {Q:Value->Shared->Prop} {E:Value->Shared->Prop} (O:zfo X sc x ix) (htt:∀ b,PT (X.block sc x ix b) c tt) (hel:∀ b,PE (X.block sc x ix b) elt te) (hc:X.calm=true)
  (I:Inv X pins σ H s) (T:Turn X.prog X.w X.K (.Name x px) J fp it tn) (st:tn 0 s.heap) (hf:∀ b∈fp,zaL X pins H b) (R:Addr->Hp->Prop)
  (h:∀ l,H l=none->∃ W:Nat->Nat->List V->Hp->Prop,(∃ m,W 0 m [] (upd H l (.lst [])))/\ziz ix tt te σ J l (R l) W)
  (fin:∀ l C m s' H',Inv X pins σ H' s'->s'.heap.Ns C m->zaL X pins H' C->R l H'->compPost (model X.prog X.w) X.A E use Q (.ref l) C (.ok .next) s') :
  wpAny (model X.prog X.w) X.A (newList []) (fun acc s₃=>wpAny (model X.prog X.w) X.A (newFunctionEnv sc X.env.globals (zaH sc X.env) [] X.env.qual none .none (some X.env)) (fun cenv s₄ =>
   codeAny (model X.prog X.w) X.A (.compStart (.ListComp elt [⟨.Name x px,iter,[c],0⟩] sc pos) 0 (.ref it) acc { cenv with scope:=relabel sc X.env }) (compPost (model X.prog X.w) X.A E use Q acc cenv.locals) s₄) E s₃) E s:=by
 refine wpAny_newObj_type (wpAny_newFunctionEnv O.cell (by intro y hy;simp at hy) (fun h₁ hns hsb=>?_) O.kind)
 dsimp only at hns hsb ⊢
 have hl0:H s.heap.objs.size=none:=I.hok.fresh (ycz _)
 obtain ⟨W,⟨m0,w0⟩,tr⟩:=h s.heap.objs.size hl0
 have I3:Inv X pins σ (upd H s.heap.objs.size (.lst [])) { s with heap:=s.heap.push { cls:=.type "list", dict:=none,data:=.seq ([]:List Value).toArray } } :=
  I.laid (t':=s.toks) (fun b o e=>ydp _ e) (ycz _) ⟨ydb _,[],0,.nil,ydr _ rfl⟩
 have ofp:∀ b∈fp,∃ o,s.heap.get? b=some o:=fun b hb=>by
  obtain ⟨o,e,_⟩:=T.obj 0 _ st b hb
  exact ⟨o,e⟩
 generalize e3:s.heap.push { cls:=.type "list", dict:=none,data:=.seq ([]:List Value).toArray }=G at I3 hns hsb ⊢
 have ofp3:∀ b∈fp,∃ o,G.get? b=some o:=fun b hb=>by
  obtain ⟨o,e⟩:=ofp b hb
  exact ⟨o,by rw[<-e3];exact ydp _ e⟩
 have nl:∀ b∈fp,b≠s.heap.objs.size:=fun b hb=>by
  obtain ⟨o,e⟩:=ofp b hb
  exact yda (ydq e)
 have hf3:∀ b∈fp,zaL X pins (upd H s.heap.objs.size (.lst [])) b:=fun b hb=>⟨by rw[zr (nl b hb)];exact (hf b hb).1,(hf b hb).2⟩
 have keep3:∀ b o,G.get? b=some o->h₁.get? b=some o:=fun b o e=>hsb.extBut b o (yda (ydq e)) (ydp _ e)
 have stk:tn 0 h₁:=T.keep _ _ _ st fun b hb o e=>keep3 b o (by rw[<-e3];exact ydp _ e)
 have J0:=znz (tk:=s.toks+([]:List (Str × Value)).length) I3 O hf3 ofp3 hns keep3
 have stat:∀ {H':Hp},(∀ b∈fp,H' b=none)->∀ b∈fp,zaL (X.block sc x ix ⟨G.objs.size,{ s with heap:=G },upd H s.heap.objs.size (.lst []),X.pn++pins,fp⟩) [] H' b:=fun hn b hb=>by
  obtain ⟨o,e⟩:=ofp3 b hb
  refine ⟨hn b hb,yda (ydq e),fun z=>(yak.mp (I3.zcf _ z)).elim (hf b hb).2.1 (hf b hb).2.2.1,.inl hb,fun y c q=>(hf b hb).2.2.2.2.1 y c (O.sub.get y c q),fun p hp=>?_⟩
  have hp':p∈X.pn++pins:=by
   rcases yaf.mp hp with z | z
   ·exact z
   ·cases z
  exact (hf b hb).2.2.2.2.2 p hp'
 have loop:∀ s4:Shared,s4={ s with heap:=h₁,toks:=s.toks+([]:List (Str × Value)).length } ->
   codeAny (model X.prog X.w) X.A (.compLoop (.ListComp elt [⟨.Name x px,iter,[c],0⟩] sc pos) 0 (.ref it) (.ref s.heap.objs.size) (compEnvC sc (zaH sc X.env) G.objs.size X.env))
    (compPost (model X.prog X.w) X.A E use Q (.ref s.heap.objs.size) G.objs.size) s4:=by
  rintro s4 rfl
  refine zgF (fun n s'=>∃ i xs H' z,Inv (X.block sc x ix ⟨G.objs.size,{ s with heap:=G },upd H s.heap.objs.size (.lst []),X.pn++pins,fp⟩) [] (z::capts σ ix) H' s'/\tn i s'.heap/\(∀ b∈fp,H' b=none)/\W i n xs H') ?_ m0
   ⟨0,[],_,none,J0,stk,fun b hb=>(hf3 b hb).1,w0⟩
  rintro n s5 ⟨i,xs,H5,z,I5,st5,fr5,w5⟩
  obtain ⟨hl5,h5⟩:=tr i n xs H5 w5
  rcases h5 with ⟨stop,r5⟩ | ⟨go,hz,step⟩
  ·refine thn (T.done (X.block sc x ix ⟨G.objs.size,{ s with heap:=G },upd H s.heap.objs.size (.lst []),X.pn++pins,fp⟩) rfl rfl rfl hc i [] s5 _ H5 _ I5 (stat fr5) st5 stop) fun r s6 ⟨hr,I6⟩=>?_
   subst hr
   obtain ⟨m6,hn6,_⟩:=I6.loc
   refine fin _ _ m6 s6 H5 (zl3 I3 hf3 I6) hn6 ?_ r5
   exact I3.zm1 (ycz _) I6.free
  ·refine thn (T.item (X.block sc x ix ⟨G.objs.size,{ s with heap:=G },upd H s.heap.objs.size (.lst []),X.pn++pins,fp⟩) rfl rfl rfl hc i [] s5 _ H5 _ I5 (stat fr5) st5 go) fun r s6 ⟨u,hr,h6⟩=>?_
   subst hr
   refine thn h6 fun _ s7 ⟨y,H7,I7,r7,y7,st7,fr7⟩=>?_
   have I7':=I7.pinned (stat fr7) (T.obj _ _ st7)
   have lx:(relabel sc X.env).names.lookup x=some .local:=lookup_relabel_local O.var
   refine thn ((zC (i:=0) O.nd rfl (Or.inl lx) (Or.inr lx):PG (X.block sc x ix ⟨G.objs.size,{ s with heap:=G },upd H s.heap.objs.size (.lst []),X.pn++pins,fp⟩) (.Name x px) (zb9 0)) _ s7 _ H7 y u (fun σ' H'=>σ'=some y::capts σ ix/\H'=H7) I7' r7 ⟨rfl,rfl⟩) fun _ s8 ⟨σ8,H8,I8,e8,e8'⟩=>?_
   subst e8 e8'
   refine thn (htt _ _ s8 _ H8 _ I8 (step y H8 y7)) fun b s9 ⟨H9,I9,q9⟩=>?_
   have kp:∀ {σ0:St} {H0:Hp} {s0:Shared},Inv (X.block sc x ix ⟨G.objs.size,{ s with heap:=G },upd H s.heap.objs.size (.lst []),X.pn++pins,fp⟩) ([]++zg0 fp s7.heap) σ0 H0 s0->tn (i+1) s0.heap/\∀ b∈fp,H0 b=none:=fun {σ0 H0 s0} I0=>by
    refine ⟨T.keep _ _ _ st7 fun b hb o e=>(I0.pin (b,o) (yag _ (yag _ (za1 hb e)))).1,fun b hb=>?_⟩
    obtain ⟨o,e,d⟩:=T.obj _ _ st7 b hb
    exact (I0.pin (b,o) (yag _ (yag _ (za1 hb e)))).2.1
   cases b with
   | false =>
    rw[if_neg Bool.false_ne_true] at q9 ⊢
    obtain ⟨m',hm,w9⟩:=q9
    exact ⟨m',hm,i+1,xs,_,some y,I9.unpinned,(kp I9).1,(kp I9).2,w9⟩
   | true =>
    rw[if_pos rfl] at q9 ⊢
    refine thn (hel _ _ s9 _ H9 _ I9 q9) fun v9 s10 ⟨v,H10,I10,r10,hl10,m',hm,w10⟩=>?_
    refine thn (za7 _ s10 _ H10 (.ref s.heap.objs.size) [v] (.ref s.heap.objs.size) [v9] (fun _ H'=>H'=upd H10 s.heap.objs.size (.lst (xs++[v]))) I10 rfl (.cons r10 .nil) ⟨_,xs,v,rfl,rfl,hl10,hz,rfl⟩) fun _ s11 ⟨_,H11,I11,_,e11⟩=>?_
    subst e11
    exact ⟨m',hm,i+1,xs++[v],_,some y,I11.unpinned,(kp I11).1,(kp I11).2,w10⟩
 exact codeAny_compStart_list (loop _ rfl) (T.self _ 0 _ _ _ stk (loop _ rfl))
theorem zbl (O:zfo X sc x ix) (hi:PI X (.Name x px) iter wi) (htt:∀ b,PT (X.block sc x ix b) c tt) (hel:∀ b,PE (X.block sc x ix b) elt te) (hc:X.calm=true:=by rfl) (hs:∀ v,foldedSetIterable iter X.env v=pure v:=by intro _;rfl) :
  PE X (.ListComp elt [⟨.Name x px,iter,[c],0⟩] sc pos) (zro ix wi tt te):=by
 intro pins s σ H Q I h
 rw[eval_ListComp]
 refine wpAny_comprehension_free (use:=none) rfl hs O.clos O.kind O.names (thn (hi pins s σ H _ I h) fun xv s1 h1=>thn h1 fun itv s2 h2=>?_)
 obtain ⟨it,fp,tn,J,H2,e,I2,T,st2,f2,hq⟩:=h2
 subst e
 refine zk9 O htt hel hc I2 T st2 f2 (fun l H'=>Q (.ref l) H') hq ?_
 intro l C m s' H' I' hn hf r
 refine ⟨m,hn,fun h' hb=>⟨.ref l,H',?_,rfl,r⟩⟩
 exact I'.turned (t':=s'.toks) (fun b o hne e=>hb.extBut b o hne e) hf.1 hf.2.1 hf.2.2.2.1 hf.2.2.2.2.1 hf.2.2.2.2.2
end
theorem ze {H:Hp} {p:Addr} (h:H p=none) (o:HO):Same H (upd H p o):=fun b u q=>by rw[zr (zW q h)];exact q
theorem zsr {ix:List Nat} {te:TE} {σ:St} {lo:Int} {n:Nat} {l:Addr} {H:Hp} {R:Hp->Prop} (P:Nat->V->Prop) (hl:H l=none) (hn:n<=sizeLine)
  (hel:∀ i H' Q',i<n->Same H H'->(∀ v,P i v->Q' v H')->te (some (.int (lo+i))::capts σ ix) H' Q') (fin:∀ xs:List V,xs.length=n->(∀ j v,xs[j]?=some v->P j v)->R (upd H l (.lst xs))) :
  ∃ W:Nat->Nat->List V->Hp->Prop,(∃ m,W 0 m [] (upd H l (.lst [])))/\Turns ix te σ (Itr lo n) l R W:=by
 refine ⟨fun i m xs H'=>m=n-i/\i<=n/\xs.length=i/\(∀ j v,xs[j]?=some v->P j v)/\H'=upd H l (.lst xs),⟨n,by simp,ydb _,rfl,(fun j v e=>by simp at e),rfl⟩,?_⟩
 rintro i m xs H' ⟨rfl,hi,hx,hp,rfl⟩
 refine ⟨zg,?_⟩
 by_cases hlt:i<n
 ·refine .inr ⟨hlt,by ac_rfl,fun x H2 y=>?_⟩
  obtain ⟨e,y⟩:=y
  subst e y
  refine hel i _ _ hlt (ze hl _) fun v hv=>⟨zg,n-(i+1),by ac_rfl,rfl,hlt,by rw[yai,hx] <;> rfl,fun j w e=>?_,by rw[zZ]⟩
  by_cases hj:j<xs.length
  ·rw[ybk hj] at e
   exact hp j w e
  ·by_cases hj2:j=xs.length
   ·subst hj2
    rw[ybh (ycz _),ydn] at e
    have e':v=w:=Option.some.inj e
    subst e'
    rw[hx];exact hv
   ·rw[yat (by rw[yai,ybr];ac_rfl)] at e
    cases e
 ·have e:i=n:=by ac_rfl
  subst e
  exact .inl ⟨ycz _,fin xs hx hp⟩
section
variable {X:Cx}
theorem zbV:∀ {ns:List Int} {us:List Value},Vals (ns.map V.int) us->IntsAre us ns
 | [],_,.nil=>.nil
 | n::ns,_,.cons ⟨t,e⟩ r=>by
  subst e
  exact .cons n t (zbV r)
theorem zhs (hc:X.calm=true):zbh X (.builtin "sum") (fun xs H Q=>∃ (p:Addr) (ns:List Int),xs=[.ref p]/\SqL X.K H p (ns.map V.int)/\Q (.int ns.sum) H):=by
 intro pins s σ H xs us Q I r h
 obtain ⟨p,ns,rfl,hq,q⟩:=h
 obtain ⟨u,rfl,rx⟩:=vals1 r
 cases rx
 obtain ⟨its,rv,pl,hz⟩:=I.list hq
 obtain ⟨xs,e⟩:=(zbV rv).allInts.items
 rw[e] at pl
 refine sum_intListG (I.ok.hd hc) pl.isList fun h' tk t' k=>⟨.int ns.sum,H,I.kept k,⟨t',?_⟩,q⟩
 have e1:=(zbV rv).numsOf
 rw[preSum_eq,yaz (by simp),<-e1]
 congr 1
 rw[<-nums_intItems,<-e]
end
mutual
inductive RdV (K:W.Frag) (H:Hp):V->PyData->Prop
 | non:RdV K H .non .none
 | bl (b:Bool):RdV K H (.bl b) (.bool b)
 | int (i:Int):RdV K H (.int i) (.int i)
 | str (x:Str):RdV K H (.str x) (.str x)
 | lst {a:Addr} {xs:List V} {ds:List PyData}:SqL K H a xs->zfP K H xs ds->RdV K H (.ref a) (.list ds)
 | tup {a:Addr} {xs:List V} {ds:List PyData}:SqT K H a xs->zfP K H xs ds->RdV K H (.ref a) (.tuple ds)
inductive zfP (K:W.Frag) (H:Hp):List V->List PyData->Prop
 | nil:zfP K H [] []
 | cons {x:V} {d:PyData} {xs:List V} {ds:List PyData}:RdV K H x d->zfP K H xs ds->zfP K H (x::xs) (d::ds)
end
section
variable {X:Cx} {pins:List (Addr × Obj)} {σ:St} {H:Hp} {s:Shared} {pos:Pos}
mutual
theorem RdV.reads (I:Inv X pins σ H s):∀ {x:V} {d:PyData} {u:Value},RdV X.K H x d->RelV x u->∃ as,Reads s.heap u d as
 | _,_,_,.non,r=>by cases r;exact ⟨_,.none⟩
 | _,_,_,.bl b,r=>by cases r;exact ⟨_,.bool b⟩
 | _,_,_,.int i,r=>by obtain ⟨t,rfl⟩:=r;exact ⟨_,.int i t⟩
 | _,_,_,.str x,r=>by obtain ⟨t,rfl⟩:=r;exact ⟨_,.str x t⟩
 | _,_,_,.lst h hs,r=>by
  cases r
  obtain ⟨its,rv,pl,hz⟩:=I.list h
  obtain ⟨as,q⟩:=zfP.reads I hs rv
  obtain ⟨o,n,e,c,hd,dt⟩:=pl
  exact ⟨_,reads_list_at e c dt (by simpa using q)⟩
 | _,_,_,.tup h hs,r=>by
  cases r
  obtain ⟨its,rv,pl,hz⟩:=I.tuple h
  obtain ⟨as,q⟩:=zfP.reads I hs rv
  obtain ⟨o,e,c,n,dt⟩:=pl
  exact ⟨_,reads_tuple_at e c dt (by simpa using q)⟩
theorem zfP.reads (I:Inv X pins σ H s):∀ {xs:List V} {ds:List PyData} {us:List Value},zfP X.K H xs ds->Vals xs us->∃ as,ReadsAll s.heap us ds as
 | _,_,_,.nil,.nil=>⟨_,.nil⟩
 | _,_,_,.cons h hs,.cons r rs=>by
  obtain ⟨as,q⟩:=RdV.reads I h r
  obtain ⟨bs,q'⟩:=zfP.reads I hs rs
  exact ⟨_,.cons q q'⟩
end
def zx4 (K:W.Frag):R2:=fun x y H Q=>∃ d e,RdV K H x d/\RdV K H y e/\SeqAt.shaped d=true/\SeqAt.shaped e=true/\Q (.bl (PyData.eqv d e)) H
theorem zw7 (hu:X.A.units+64<cLine):OpR X (compareOp .Eq) (zx4 X.K):=by
 intro pins s σ H x y v u Q I rx ry h
 obtain ⟨d,e,hd,he,sd,se,q⟩:=h
 obtain ⟨as,ra⟩:=hd.reads I rx
 obtain ⟨bs,rb⟩:=he.reads I ry
 exact eq_dataH ra rb sd se hu ⟨.bl _,H,I,rfl,q⟩
end
noncomputable def kinds:List String:=["NoneType", "bool", "int", "str", "list", "tuple", "dict"]
theorem zwp {K:W.Frag} {T:String} (h:T∈kinds):PySem.W.kitOne K (.type T) (.type "int")=some (decide (T = "int" \/ T = "bool")):=by
 simp only[kinds,yak,ybu,or_false] at h
 rcases h with rfl | rfl | rfl | rfl | rfl | rfl | rfl <;> rfl
theorem zu1 {K:W.Frag} {T:String} (h:T∈kinds):PySem.W.kitOne K (.type T) (.type "bool")=some (decide (T = "bool")):=by
 simp only[kinds,yak,ybu,or_false] at h
 rcases h with rfl | rfl | rfl | rfl | rfl | rfl | rfl <;> rfl
def zxh (K:W.Frag) (H:Hp) (x:V) (T:String):Prop:=zdg K H x (.type T)/\T∈kinds
theorem zxB {A B:Prop} (h:B):if (!true)=true then A else B:=zwF (A:=A) h
theorem zxU {p A B:Prop} [Decidable p] (h1:¬ p->A) (h2:p->B):if (!decide p)=true then A else B:=by
 by_cases h:p
 ·rw[if_neg (by simpa using h)];exact h2 h
 ·rw[if_pos (by simpa using h)];exact h1 h
theorem zbb {X:Cx} {a b v:Int} {j j':Nat} {p p' pos:Pos} (h:a ^ b.toNat=v) (hb:CPow a b):PE X (.BinOp (.Constant (.int a) j p) .Pow (.Constant (.int b) j' p') pos) (tC (.int v)):=by
 intro pins s σ H Q I hq
 exact zi zxl zb zb pins s σ H Q I ⟨_,_,rfl,rfl,hb,by show Q (V.int (a ^ b.toNat)) H;rw[h];exact hq⟩
theorem zai.get {P:Program} {w:World} {H:Hp} {h:Heap} {a:Addr} {o:HO} (x:zai P w H h a o):∃ u,h.get? a=some u:=by
 cases o with
 | lst xs=>obtain ⟨_,_,_,_,e⟩:=x;exact ⟨_,e⟩
 | tup xs=>obtain ⟨_,_,_,_,e,_⟩:=x;exact ⟨_,e⟩
 | dK kvs=>obtain ⟨_,_,_,_,_,_,_,e,_⟩:=x;exact ⟨_,e⟩
 | set S n=>obtain ⟨_,_,_,_,e,_⟩:=x;exact ⟨_,e⟩
 | ins C dx fs=>obtain ⟨_,_,_,e,_⟩:=x;exact ⟨_,e⟩
 | own y=>exact x
 | xd fs=>obtain ⟨_,⟨_,_,_,e,_⟩,_⟩:=x;exact ⟨_,e⟩
 | rng lo hi=>obtain ⟨_,_,_,e⟩:=x;exact ⟨_,e⟩
 | frz ob u=>obtain ⟨e,_⟩:=x;exact ⟨_,e⟩
 | tbl ps=>exact ⟨_,(show h.get? a=some _ from x)⟩
 | met f y=>exact ⟨_,(show h.get? a=some _ from x)⟩
 | ext φ=>obtain ⟨_,e,_⟩:=x;exact e
theorem HOk.gone {P:Program} {w:World} {H:Hp} {h:Heap} {a:Addr} (x:HOk P w H h) (e:h.get? a=none):H a=none:=by
 cases q:H a with
 | none=>rfl
 | some o =>
  obtain ⟨u,z⟩:=(x a o q).get
  rw[e] at z;cases z
section
variable {X:Cx} {pins:List (Addr × Obj)} {σ:St} {H:Hp} {s:Shared} {h':Heap} {hid:List Addr}
end
section
variable {P:Program} {w:World} {K:W.Frag} {mg:Str->Option Value} {base:Heap} {N:List Str} {qual:Str} {scope:Scope} {f:Addr} {cd:Value} {A:Around} {outer:List Env} {s₀:Shared} {H₀:Hp} {E:XK}
end
section
variable {P:Program} {w:World} {K:W.Frag} {mg:Str->Option Value} {base:Heap} {x:Str} {st:Stmt} {N ps:List Str} {k:Nat} {sp:Sp}
end
section
variable {X:Cx} {x:Str} {p pos:Pos} {e:Expr} {es:List Expr} {t:TA} {j k:Nat} {ps:List Str} {sp:Sp}
end
noncomputable def cA (K:W.Frag) (x:Str):Addr:=match PySem.W.nsIn K mainGlobals x with
 | some (some (.ref C))=>C
 | _=>0
theorem zdS {K:W.Frag} {x:Str} {C:Addr} (e:PySem.W.nsIn K mainGlobals x=some (some (.ref C))):cA K x=C:=by unfold cA;rw[e]
section
variable {X:Cx} {x:Str} {np cpos pos:Pos} {e0:Expr} {rest:List Expr} {t:TA} {E:XK}
end
section
open PySem.Builtin PySem.Builtin.ObjectAttr PySem.Builtin.Getset_descriptor
variable {prog:Program} {w:World} {A:Around} {E:Value->Shared->Prop} {s:Shared} {K:W.Frag} {e C:Addr} {oe:Obj}
end
section
variable {K:W.Frag} {e C:Addr}
end
section
variable {X:Cx}
end
section
variable {X:Cx} {pins:List (Addr × Obj)} {σ:St} {H:Hp} {s:Shared} {e:Addr}
theorem Inv.track {o:HO} (I:Inv X pins σ H s) (hn:H e=none) (h0:X.s₀.heap.get? e=none) (hL:e≠X.env.locals) (hC:∀ x c,X.env.cells.lookup x=some c->c≠e) (hp:∀ p∈X.pn++pins,p.1≠e)
  (new:zai X.prog X.w (upd H e o) s.heap e o):Inv X pins σ (upd H e o) s:=by
 refine ⟨I.ok,I.os,I.bare,⟨I.base.keep,I.base.slot,fun b u q n hx=>?_,I.base.there,fun b xs q=>?_,fun b u v q=>?_,fun b ps q=>?_⟩,I.loc,I.cell,?_,fun x c q=>?_,fun p q=>?_,fun b u q=>?_,I.len⟩
 ·rw[zr (fun z=>by rw[z,h0] at q;cases q)]
  exact I.base.free b u q n hx
 ·have z:=I.base.tups b xs q
  rw[zr (zW z hn)];exact z
 ·have z:=I.base.frzs b u v q
  rw[zr (zW z hn)];exact z
 ·obtain ⟨more,z⟩:=I.base.tbls b ps q
  exact ⟨more,by rw[zr (zW z hn)];exact z⟩
 ·rw[zr (Ne.symm hL)];exact I.free
 ·rw[zr (hC x c q)];exact I.freeC x c q
 ·obtain ⟨a,b,c,d,f⟩:=I.pin p q
  exact ⟨a,by rw[zr (hp p q)];exact b,c,d,f⟩
 ·by_cases hb:b=e
  ·subst hb
   rw[zg] at q;cases q
   exact new
  ·rw[zr hb] at q
   exact (I.hok b u q).stay (fun _ _ _ z=>z) (fun c z=>by rw[zr (zW z hn)];exact z) fun c xs z=>by rw[zr (zW z hn)];exact z
end
section
variable {K:W.Frag} {h:Heap} {mg:Str->Option Value} {x y:Str} {C D:Addr} {v:Bool} {n:String}
theorem zbs (X:K.In h) (a:PySem.W.nsIn K mainGlobals x=some (some (.ref C))):PySem.W.nsIn K mainGlobals x=some (some (.ref C)):=a
theorem zde (X:K.In h) (G:h.Ns mainGlobals mg) (a:PySem.W.nsIn K mainGlobals x=some (some (.ref C))):mg x=some (.ref (cA K x)):=by
 rw[zdS a];exact PySem.W.mg_of X G a
theorem zmg (a:PySem.W.nsIn K mainGlobals x=some (some (.ref C))) (b:PySem.W.nsIn K mainGlobals y=some (some (.ref D))) (q:PySem.W.kitOne K (.ref C) (.ref D)=some v):PySem.W.kitOne K (.ref (cA K x)) (.ref (cA K y))=some v:=by
 rw[zdS a,zdS b];exact q
theorem zkG (a:PySem.W.nsIn K mainGlobals x=some (some (.ref C))) (q:PySem.W.kitOne K (.ref C) (.type n)=some v):PySem.W.kitOne K (.ref (cA K x)) (.type n)=some v:=by
 rw[zdS a];exact q
end
section
variable {P:Program} {w:World} {K:W.Frag} {mg:Str->Option Value} {base:Heap} {x:Str} {st:Stmt} {N ps:List Str} {k:Nat} {sp:Sp}
end
section
variable {X:Cx} {x:Str} {p pos:Pos} {e:Expr} {es:List Expr} {t:TA} {j k:Nat} {ps:List Str} {sp:Sp}
end
theorem ziA {xs:List V} {k:Int} (h0:0<=k) (h:k<(xs.length:Int)):∃ v,atI xs k=some v/\v∈xs:=by
 have hk:k.toNat<xs.length:=by ac_rfl
 have q:atI xs ((k.toNat:Nat):Int)=some xs[k.toNat]:=zaw (yaa hk)
 rw[show ((k.toNat:Nat):Int)=k by ac_rfl] at q
 exact ⟨_,q,ycp hk⟩
theorem zay {v:V} {xs:List V} {p:V->Prop} (h:p v) (t:∀ x∈xs,p x):∀ x∈v::xs,p x:=fun x hx=>by
 rcases yak.mp hx with rfl | hx
 ·exact h
 ·exact t x hx
theorem zph {p:V->Prop}:∀ x∈([]:List V),p x:=fun x hx=>by cases hx
theorem zM {H H':Hp} {a:Addr} (s:Same H H') (h:H' a=none):H a=none:=by
 cases q:H a with
 | none=>rfl
 | some o=>rw[s a o q] at h;cases h
theorem zN {H H':Hp} {l:Addr} {o:HO} (s:Same H H') (h:H l=none):Same H (upd H' l o):=fun b u q=>by
 rw[zr (zW q h)];exact s b u q
theorem zk4:∀ ns:List Int,PyData.canLayAll0 (ns.map PyData.int)=true
 | []=>by simp[PyData.canLayAll0]
 | n::ns=>by simp[PyData.canLayAll0,PyData.canLay0,zk4 ns]
theorem zl0:∀ ns:List Int,PyData.depthAll (ns.map PyData.int)=0
 | []=>by simp[PyData.depthAll]
 | n::ns=>by simp[PyData.depthAll,PyData.depth,zl0 ns]
theorem shaped_ints (ns:List Int):SeqAt.shaped (.list (ns.map PyData.int))=true:=by
 simp[SeqAt.shaped,PyData.canLay0,PyData.depth,zk4,zl0]
end L2
namespace L2
open PySem PySem.W PyProof.Rows
def zR (t u:TS):TS:=zad t u
theorem zc {X:Cx} {st:Stmt} {rest:List Stmt} {t u:TS} (h1:PS X st t) (h2:PSs X rest u):PSs X (st::rest) (zR t u):=zuz h1 h2
def Mkd (p:Prop):Prop:=p
variable {t1 t2 t3 t4 t5 t6 t7 t8 t9 t10:TS} {D:Ends} {σ:St} {H:Hp}
theorem sqG (h:Mkd (zR t1 t2 D σ H)):zR t1 t2 D σ H:=h
theorem zx9 (h:let v1:=t2;zad t1 v1 D σ H):Mkd ((zR t1 t2) D σ H):=h
theorem zxW (h:let v2:=t3;let v1:=zad t2 v2;zad t1 v1 D σ H):Mkd ((zR t1 (zR t2 t3)) D σ H):=h
theorem zyf (h:let v3:=t4;let v2:=zad t3 v3;let v1:=zad t2 v2;zad t1 v1 D σ H):Mkd ((zR t1 (zR t2 (zR t3 t4))) D σ H):=h
theorem zx0 (h:let v4:=t5;let v3:=zad t4 v4;let v2:=zad t3 v3;let v1:=zad t2 v2;zad t1 v1 D σ H):Mkd ((zR t1 (zR t2 (zR t3 (zR t4 t5)))) D σ H):=h
theorem zx3 (h:let v5:=t6;let v4:=zad t5 v5;let v3:=zad t4 v4;let v2:=zad t3 v3;let v1:=zad t2 v2;zad t1 v1 D σ H):Mkd ((zR t1 (zR t2 (zR t3 (zR t4 (zR t5 t6))))) D σ H):=h
theorem zyq (h:let v6:=t7;let v5:=zad t6 v6;let v4:=zad t5 v5;let v3:=zad t4 v4;let v2:=zad t3 v3;let v1:=zad t2 v2;zad t1 v1 D σ H):Mkd ((zR t1 (zR t2 (zR t3 (zR t4 (zR t5 (zR t6 t7)))))) D σ H):=h
theorem zx5 (h:let v7:=t8;let v6:=zad t7 v7;let v5:=zad t6 v6;let v4:=zad t5 v5;let v3:=zad t4 v4;let v2:=zad t3 v3;let v1:=zad t2 v2;zad t1 v1 D σ H):Mkd ((zR t1 (zR t2 (zR t3 (zR t4 (zR t5 (zR t6 (zR t7 t8))))))) D σ H):=h
theorem zx6 (h:let v8:=t9;let v7:=zad t8 v8;let v6:=zad t7 v7;let v5:=zad t6 v6;let v4:=zad t5 v5;let v3:=zad t4 v4;let v2:=zad t3 v3;let v1:=zad t2 v2;zad t1 v1 D σ H):Mkd ((zR t1 (zR t2 (zR t3 (zR t4 (zR t5 (zR t6 (zR t7 (zR t8 t9)))))))) D σ H):=h
theorem zxM (h:let v9:=t10;let v8:=zad t9 v9;let v7:=zad t8 v8;let v6:=zad t7 v7;let v5:=zad t6 v6;let v4:=zad t5 v5;let v3:=zad t4 v4;let v2:=zad t3 v3;let v1:=zad t2 v2;zad t1 v1 D σ H):Mkd ((zR t1 (zR t2 (zR t3 (zR t4 (zR t5 (zR t6 (zR t7 (zR t8 (zR t9 t10))))))))) D σ H):=h
inductive Ee4 {α0 α1 α2 α3:Type} (p:α0->α1->α2->α3->Prop):Prop | mk (x0:α0) (x1:α1) (x2:α2) (x3:α3) (h:p x0 x1 x2 x3):Ee4 p
inductive Ee5 {α0 α1 α2 α3 α4:Type} (p:α0->α1->α2->α3->α4->Prop):Prop | mk (x0:α0) (x1:α1) (x2:α2) (x3:α3) (x4:α4) (h:p x0 x1 x2 x3 x4):Ee5 p
inductive Ee6 {α0 α1 α2 α3 α4 α5:Type} (p:α0->α1->α2->α3->α4->α5->Prop):Prop | mk (x0:α0) (x1:α1) (x2:α2) (x3:α3) (x4:α4) (x5:α5) (h:p x0 x1 x2 x3 x4 x5):Ee6 p
inductive Ee7 {α0 α1 α2 α3 α4 α5 α6:Type} (p:α0->α1->α2->α3->α4->α5->α6->Prop):Prop | mk (x0:α0) (x1:α1) (x2:α2) (x3:α3) (x4:α4) (x5:α5) (x6:α6) (h:p x0 x1 x2 x3 x4 x5 x6):Ee7 p
inductive Ee8 {α0 α1 α2 α3 α4 α5 α6 α7:Type} (p:α0->α1->α2->α3->α4->α5->α6->α7->Prop):Prop | mk (x0:α0) (x1:α1) (x2:α2) (x3:α3) (x4:α4) (x5:α5) (x6:α6) (x7:α7) (h:p x0 x1 x2 x3 x4 x5 x6 x7):Ee8 p
inductive Ee9 {α0 α1 α2 α3 α4 α5 α6 α7 α8:Type} (p:α0->α1->α2->α3->α4->α5->α6->α7->α8->Prop):Prop | mk (x0:α0) (x1:α1) (x2:α2) (x3:α3) (x4:α4) (x5:α5) (x6:α6) (x7:α7) (x8:α8) (h:p x0 x1 x2 x3 x4 x5 x6 x7 x8):Ee9 p
inductive zwI {α0 α1 α2 α3 α4 α5 α6 α7 α8 α9:Type} (p:α0->α1->α2->α3->α4->α5->α6->α7->α8->α9->Prop):Prop | mk (x0:α0) (x1:α1) (x2:α2) (x3:α3) (x4:α4) (x5:α5) (x6:α6) (x7:α7) (x8:α8) (x9:α9) (h:p x0 x1 x2 x3 x4 x5 x6 x7 x8 x9):zwI p
inductive Aa3 (a0 a1 a2:Prop):Prop | mk (h0:a0) (h1:a1) (h2:a2):Aa3 a0 a1 a2
inductive Aa4 (a0 a1 a2 a3:Prop):Prop | mk (h0:a0) (h1:a1) (h2:a2) (h3:a3):Aa4 a0 a1 a2 a3
inductive Aa5 (a0 a1 a2 a3 a4:Prop):Prop | mk (h0:a0) (h1:a1) (h2:a2) (h3:a3) (h4:a4):Aa5 a0 a1 a2 a3 a4
inductive Aa6 (a0 a1 a2 a3 a4 a5:Prop):Prop | mk (h0:a0) (h1:a1) (h2:a2) (h3:a3) (h4:a4) (h5:a5):Aa6 a0 a1 a2 a3 a4 a5
inductive Aa7 (a0 a1 a2 a3 a4 a5 a6:Prop):Prop | mk (h0:a0) (h1:a1) (h2:a2) (h3:a3) (h4:a4) (h5:a5) (h6:a6):Aa7 a0 a1 a2 a3 a4 a5 a6
inductive Aa8 (a0 a1 a2 a3 a4 a5 a6 a7:Prop):Prop | mk (h0:a0) (h1:a1) (h2:a2) (h3:a3) (h4:a4) (h5:a5) (h6:a6) (h7:a7):Aa8 a0 a1 a2 a3 a4 a5 a6 a7
inductive Aa9 (a0 a1 a2 a3 a4 a5 a6 a7 a8:Prop):Prop | mk (h0:a0) (h1:a1) (h2:a2) (h3:a3) (h4:a4) (h5:a5) (h6:a6) (h7:a7) (h8:a8):Aa9 a0 a1 a2 a3 a4 a5 a6 a7 a8
inductive zuP (a0 a1 a2 a3 a4 a5 a6 a7 a8 a9:Prop):Prop | mk (h0:a0) (h1:a1) (h2:a2) (h3:a3) (h4:a4) (h5:a5) (h6:a6) (h7:a7) (h8:a8) (h9:a9):zuP a0 a1 a2 a3 a4 a5 a6 a7 a8 a9
end L2
namespace L2
open PySem PySem.Spec PyProof.Rows
section
variable {X:Cx}
theorem ztD (hc:X.calm=true):zbh X (.builtin "max") (fun xs H Q=>∃ (p:Addr) (ns:List Int),xs=[.ref p]/\SqL X.K H p (ns.map V.int)/\0<ns.length/\∀ M,M∈ns->(∀ a∈ns,a<=M)->Q (.int M) H):=by
 intro pins s σ H xs us Q I r h
 obtain ⟨p,ns,rfl,hq,hne,q⟩:=h
 obtain ⟨u,rfl,rx⟩:=vals1 r
 cases rx
 obtain ⟨its,rv,pl,hz⟩:=I.list hq
 obtain ⟨xs,e⟩:=(zbV rv).allInts.items
 have hns:ns=xs.toList.map (·.1):=by rw[<- (zbV rv).numsOf,<-nums_intItems,<-e]
 have hsz:0<xs.size:=by rw[hns,yab,yec] at hne;exact hne
 rw[e] at pl
 refine max_intList (I.ok.hd hc) pl.isList hsz fun v h' tk hv hk=>?_
 obtain ⟨t,rfl⟩:=intItems_at hv
 obtain ⟨h1,h2⟩:=argBest_gt (numAt xs) (xs.size-1)
 refine ⟨.int _,H,I.kept hk,⟨t,rfl⟩,q _ ?_ fun a ha=>?_⟩
 ·rw[hns,numAt_eq];exact getD_mem (by rw[yab,yec];ac_rfl)
 ·rw[hns] at ha
  obtain ⟨j,hj,rfl⟩:=mem_getD ha
  rw[yab,yec] at hj
  rw[<-numAt_eq];exact h2 j (by ac_rfl)
end
section
variable {prog:Program} {w:World} {A:Around} {R:Result->Shared->Prop}
noncomputable def zxC (prog:Program) (w:World) (A:Around) (Q:Value->Shared->Prop) (E:Value->Shared->Prop):PySem.Fin->Shared->Prop:=fun fin s'=>match fin with
 | .done f=>(match (Except.ok f:Result) with | .ok (.ret v)=>Q v s' | .ok _=>False | .error e=>E e s') | .again c'=>c'.quiet=true/\codeAny (model prog w) A c' (fun r s'=>match r with | .ok (.ret v)=>Q v s' | .ok _=>False | .error e=>E e s') s'
end
section
variable {X:Cx}
end
section
variable {prog:Program} {w:World} {A:Around} {R:Result->Shared->Prop}
theorem zqx {E:Value->Shared->Prop} {s:Shared} {args:List Value} {kw:List (Str × Value)} {Q:Value->Shared->Prop} (ha:argsOk "max" ⟨args,kw⟩) (hc:wpAny (model prog w) A.in1 (Builtin.«max» ⟨args,kw⟩) (zxC prog w A Q E) E s):wpAny (model prog w) A (call (.builtin "max") args kw) Q E s:=by
 refine wpAny_call (codeAny_call_builtin F.plain_max F.entry_max ?_)
 simp only[checkBuiltinCall,F.kind_max]
 cases hs:Manifest.signature? "max" with
 | none=>exact wpAny_pure hc
 | some sg =>
  rw[argsOk,hs] at ha
  exact wpAny_of_eq (t:=Bind.checkArgs "max" sg ⟨args,kw⟩) ha hc
end
section
variable {X:Cx}
end
section
variable {prog:Program} {w:World} {A:Around} {E:Value->Shared->Prop} {s:Shared} {K:W.Frag} {e C f:Addr} {oe:Obj}
end
section
open PySem.Builtin PySem.Builtin.ObjectAttr
variable {prog:Program} {w:World} {A:Around} {E:Value->Shared->Prop} {s:Shared} {K:W.Frag} {e C f dx:Addr} {oe:Obj} {vs:Array Value} {mA:Str->Option Value} {name:Str} {v:Value}
end
section
open PySem.Builtin PySem.Builtin.ObjectAttr
variable {prog:Program} {w:World} {A:Around} {E:Value->Shared->Prop} {s:Shared} {K:W.Frag} {x C f dx:Addr} {o:Obj} {vs:Array Value} {mA:Str->Option Value} {name:Str} {v:Value}
set_option maxHeartbeats 2000000 in
end
section
variable {X:Cx} {pins:List (Addr × Obj)} {σ:St} {H:Hp} {s:Shared} {e:Addr}
theorem Inv.zpI (I:Inv X pins σ H s) (hn:s.heap.get? e=none) (hex:X.ex=[]):X.s₀.heap.get? e=none/\e≠X.env.locals/\(∀ x c,X.env.cells.lookup x=some c->c≠e)/\∀ p∈X.pn++pins,p.1≠e:=by
 refine ⟨?_,fun z=>?_,fun x c q z=>?_,fun p hp z=>?_⟩
 ·cases q:X.s₀.heap.get? e with
  | none=>rfl
  | some o =>
   obtain ⟨o',e1⟩:=I.base.there e o q (by rw[hex];simp)
   rw[hn] at e1;cases e1
 ·obtain ⟨m,⟨o,es,ep,ho,_⟩,_⟩:=I.loc
  rw[<-z,hn] at ho;cases ho
 ·obtain ⟨v,o,ho,hd⟩:=I.cell x c q
  rw[z,hn] at ho;cases ho
 ·have:=(I.pin p hp).1
  rw[z,hn] at this;cases this
theorem Inv.zpt {o:HO} {h':Heap} {t':Nat} (I:Inv X pins σ H s) (k:∀ b u,s.heap.get? b=some u->h'.get? b=some u) (hn:s.heap.get? e=none) (hex:X.ex=[]) (new:zai X.prog X.w (upd H e o) h' e o) :
  Inv X pins σ (upd H e o) { s with heap:=h',toks:=t' } :=
 let ⟨a,b,c,d⟩:=I.zpI hn hex
 (I.kept (t':=t') k).track (I.hok.gone hn) a b c d new
end
section
variable {X:Cx} {x:Str} {np pos:Pos} {e0:Expr} {rest:List Expr} {t:TA}
end
section
variable {X:Cx} {o value:Expr} {name:Str} {pos pos':Pos} {ta tv:TE} {C f:Addr}
end
section
variable {X:Cx} {x:Str} {np pos:Pos} {e0:Expr} {t:TA} {C f:Addr} {fd:FuncData} {ps:List Str} {name:Str} {j k:Nat}
end
section
variable {X:Cx} {o:Expr} {name:Str} {pos:Pos} {ta:TE} {C:Addr}
end
section
variable {K:W.Frag} {h:Heap} {mg:Str->Option Value} {x:Str} {C f D:Addr}
theorem zP {name:Str} (a:PySem.W.nsIn K mainGlobals x=some (some (.ref C))) (q:PySem.W.findIn K (.ref C) name=some none):PySem.W.findIn K (.ref (cA K x)) name=some none:=by rw[zdS a];exact q
end
namespace za6
def Up (xs:Array Nat):Prop:=xs.toList.Pairwise (·<·)
theorem zop {xs:Array Nat} (h:Up xs) {i j:Nat} (hi:i<j) (hj:j<xs.size) (d e:Nat):xs.getD i d<xs.getD j e:=by
 have hi':i<xs.size:=by ac_rfl
 have q:=yax.mp h i j (by simpa using hi') (by simpa using hj) hi
 simpa [yeg,hi',hj] using q
theorem zm7 {xs:Array Nat} {j:Nat} (h:Up xs):∀ (fuel lo hi:Nat),lo<=hi->hi<=xs.size->hi-lo<=fuel->(∀ i,i<lo->xs.getD i j<j)->(∀ i,hi<=i->i<xs.size->j<=xs.getD i j) ->
  SetTable.below.go xs j fuel lo hi<=xs.size/\(∀ i,i<SetTable.below.go xs j fuel lo hi->xs.getD i j<j)/\∀ i,SetTable.below.go xs j fuel lo hi<=i->i<xs.size->j<=xs.getD i j
 | 0,lo,hi,h1,h2,h3,a,b=>by
  unfold SetTable.below.go
  exact ⟨by ac_rfl,a,fun i p q=>b i (by ac_rfl) q⟩
 | fuel+1,lo,hi,h1,h2,h3,a,b=>by
  unfold SetTable.below.go
  by_cases hl:lo<hi
  ·rw[if_pos hl]
   dsimp only
   by_cases hm:xs.getD ((lo+hi) / 2) j<j
   ·rw[if_pos hm]
    refine zm7 h fuel _ hi (by ac_rfl) h2 (by ac_rfl) (fun i q=>?_) b
    by_cases e:i=(lo+hi) / 2
    ·rw[e];exact hm
    ·exact ydi (zop h (by ac_rfl) (by ac_rfl) j j) hm
   ·rw[if_neg hm]
    refine zm7 h fuel lo _ (by ac_rfl) (by ac_rfl) (by ac_rfl) a (fun i q r=>?_)
    by_cases e:i=(lo+hi) / 2
    ·rw[e];ac_rfl
    ·have:=zop h (i:=(lo+hi) / 2) (j:=i) (by ac_rfl) r j j
     ac_rfl
  ·rw[if_neg hl]
   exact ⟨by ac_rfl,a,fun i p q=>b i (by ac_rfl) q⟩
theorem zmx {xs:Array Nat} (h:Up xs) (j:Nat):SetTable.below xs j<=xs.size/\(∀ i,i<SetTable.below xs j->xs.getD i j<j)/\∀ i,SetTable.below xs j<=i->i<xs.size->j<=xs.getD i j:=by
 unfold SetTable.below
 exact zm7 h _ _ _ (ydb _) (ycz _) (by ac_rfl) (fun i q=>by ac_rfl) fun i p q=>by ac_rfl
theorem ztx {xs:Array Nat} {j:Nat} (h:Up xs) (hj:xs[SetTable.below xs j]?≠some j):Up (SetTable.insertAt xs (SetTable.below xs j) j):=by
 obtain ⟨h0,h1,h2⟩:=zmx h j
 generalize SetTable.below xs j=p at *
 unfold Up
 rw[SetTable.toList_insertAt]
 have e:xs.toList=xs.toList.take p++xs.toList.drop p:=(List.take_append_drop p _).symm
 have hp:(xs.toList.take p++xs.toList.drop p).Pairwise (·<·):=by rw[<-e];exact h
 obtain ⟨a,b,c⟩:=ybo.mp hp
 have lo:∀ x∈xs.toList.take p,x<j:=fun x hx=>by
  obtain ⟨i,hi,rfl⟩:=yba.mp hx
  rw[ybe,yec] at hi
  have:=h1 i (by ac_rfl)
  rw[List.getElem_take]
  simpa [yeg,show i<xs.size by ac_rfl] using this
 have hi:∀ x∈xs.toList.drop p,j<x:=fun x hx=>by
  obtain ⟨i,hi,rfl⟩:=yba.mp hx
  rw[yct,yec] at hi
  have q:=h2 (p+i) (by ac_rfl) (by ac_rfl)
  rw[List.getElem_drop]
  have g:xs.getD (p+i) j=xs.toList[p+i]'(by rw[yec];ac_rfl):=by simp[yeg,show p+i<xs.size by ac_rfl]
  rw[g] at q
  refine Nat.lt_of_le_of_ne q fun z=>?_
  by_cases i0:i=0
  ·subst i0
   apply hj
   rw[yed (by ac_rfl:p<xs.size),z]
   simp
  ·have q0:=h2 p (ycz _) (by ac_rfl)
   have lt:=zop h (i:=p) (j:=p+i) (by ac_rfl) (by ac_rfl) j j
   rw[g,<-z] at lt
   ac_rfl
 exact ybo.mpr ⟨a,ycf.mpr ⟨hi,b⟩,fun x hx y hy=>by
  rcases yak.mp hy with rfl | hy
  ·exact lo x hx
  ·exact c x hx y hy⟩
structure Tab (bt:Bool) (t:SetTable):Prop where
 led:t.led=!bt
 dum:t.dummies=#[]
 up:t.plain=true->Up t.place
theorem has_none (j:Nat):SetTable.has #[] j=false:=by simp[SetTable.has]
theorem zrU {t:SetTable} (hd:t.dummies=#[]) (j:Nat):t.slot j≠.dummy:=by
 unfold SetTable.slot
 dsimp only
 split
 ·intro z;cases z
 ·rw[hd,has_none];intro z;simp at z
theorem zla {t:SetTable} (hd:t.dummies=#[]) {f:Nat->Int} {h:Int}:∀ (fuel:Nat) (p:SetTable.Probe) {j:Nat} {d:Option Nat},p.dummy=none->SetTable.probe.go t f h fuel p=some (.empty j d)->d=none/\t.slot j=.empty
 | 0,p,j,d,hp,e=>by simp[SetTable.probe.go] at e
 | fuel+1,p,j,d,hp,e=>by
  have adv:∀ q:SetTable.Probe,q.dummy=none->(t.advance q).dummy=none:=fun q hq=>by
   unfold SetTable.advance
   split
   ·exact hq
   ·exact hq
  unfold SetTable.probe.go at e
  cases hs:t.slot p.j with
  | empty =>
   rw[hs] at e
   cases e
   exact ⟨hp,hs⟩
  | dummy=>exact absurd hs (zrU hd _)
  | live i =>
   rw[hs] at e
   dsimp only at e
   split at e
   ·cases e
   ·exact zla hd fuel _ (adv p hp) e
theorem znB {t:SetTable} (hd:t.dummies=#[]) {h:Int} {j:Nat} {b:Bool} (e:t.freeSlot h=some (j,b)):t.place[SetTable.below t.place j]?≠some j:=by
 unfold SetTable.freeSlot at e
 split at e
 ·rename_i j' d' q
  obtain ⟨rfl,hs⟩:=zla hd _ _ rfl (show SetTable.probe.go t _ h _ _=_ from q)
  cases e
  intro z
  have z':t.place[SetTable.below t.place j']?=some j':=z
  unfold SetTable.slot at hs
  dsimp only at hs
  rw[if_pos (by rw[z'];simp)] at hs
  cases hs
 ·cases e
theorem zhj {bt:Bool} {t:SetTable} (T:Tab bt t) (n:Nat):Tab bt (t.standIn n):=⟨T.led,rfl,fun z=>by cases z⟩
theorem zrF {bt:Bool} {t:SetTable} (T:Tab bt t) {j:Nat} (hj:t.place[SetTable.below t.place j]?≠some j):Tab bt (t.put j).1 :=
 ⟨T.led,by show (if SetTable.has t.dummies j then _ else t.dummies)=#[];rw[T.dum,has_none];rfl,fun z=>ztx (T.up z) hj⟩
theorem zvV {bt:Bool} {t:SetTable} (T:Tab bt t) (es:Array (Int × Value)) (h:Int) (x:Value):Tab bt (layNew t es h x).2.1:=by
 unfold layNew
 split
 ·rename_i j b e
  dsimp only
  unfold SetTable.orStandIn
  split
  ·exact zrF T (znB T.dum e)
  ·exact zhj (zrF T (znB T.dum e)) _
 ·exact zhj T _
theorem zvz (owner:Array (Option Nat)) (m:Nat):(((ybg m).filterMap fun j=>(owner.getD j none).map (fun k=>(j,k))).map (·.1)).Pairwise (·<·):=by
 have e:(((ybg m).filterMap fun j=>(owner.getD j none).map (fun k=>(j,k))).map (·.1))=(ybg m).filter fun j=>(owner.getD j none).isSome:=by
  generalize ybg m=l
  induction l with
  | nil=>rfl
  | cons a l ih =>
   cases q:owner.getD a none with
   | none=>rw[ycb,q,List.filter_cons,q];simpa using ih
   | some k=>rw[ycb,q,List.filter_cons,q];simpa using ih
 rw[e]
 exact List.Pairwise.filter _ (List.pairwise_lt_range)
theorem zwX {bt:Bool} {t:SetTable} (T:Tab bt t) (es:Array (Int × Value)) (n:Nat):Tab bt (relayAll t es n).2.1:=by
 unfold relayAll
 split
 ·rename_i t' order e
  dsimp only
  split
  ·unfold SetTable.relaid SetTable.laid at e
   simp only[Option.bind_eq_bind,Option.bind_eq_some_iff] at e
   obtain ⟨owner,_,e⟩:=e
   cases e
   refine ⟨T.led,rfl,fun _=>?_⟩
   unfold Up
   simpa using zvz owner _
  ·exact zhj T _
 ·exact zhj T _
theorem ztU (bt:Bool):Tab bt (.fresh 0 0 (!bt)):=⟨rfl,rfl,fun _=>List.Pairwise.nil⟩
end za6
namespace za6
noncomputable def intOf:Value->Int
 | .int i _=>i
 | _=>0
theorem zqg {k:Int} {v:Value} (h:Value.isInt k v=true):intOf v=k:=by
 obtain ⟨t,rfl⟩:=Value.isInt_shape h
 rfl
structure zds (prog:Program) (w:World) (h:Heap) (a:Addr) (ms:List Int):Prop where
 ex:∃ o es ep t,(h.get? a=some o/\o.ExactSet/\o.data=.set es ep t)/\(ElemsOf (intKind prog w) es.toList/\es.size<scanBound/\t.fits es.size=true)/\Tab (w.params.followText "set-order") t /\
  es.toList.map (fun e=>intOf e.2)=ms
 nd:ms.Nodup
theorem zpc {prog:Program} {w:World} {l:List (Int × Value)} (hl:ElemsOf (intKind prog w) l) (k:Int):(∃ e∈l,Value.isInt k e.2=true)↔k∈l.map fun e=>intOf e.2:=by
 constructor
 ·rintro ⟨e,he,q⟩
  exact yah.mpr ⟨e,he,zqg q⟩
 ·intro q
  obtain ⟨e,he,rfl⟩:=yah.mp q
  obtain ⟨⟨k',hk,_⟩,_⟩:=hl e he
  refine ⟨e,he,?_⟩
  rw[zqg hk];exact hk
section
variable {prog:Program} {w:World} {A:Around} {E:Value->Shared->Prop} {s:Shared} {a:Addr} {ms:List Int} {k:Int} {tk:Tok}
theorem xadd {Q:Bool->Shared->Prop} (S:zds prog w s.heap a ms) (room:ms.length+1<scanBound)
  (hQ:∀ b h' ms',Heap.SameBut a s.heap h'->zds prog w h' a ms'->(∀ m,m∈ms'↔m∈ms\/m=k)->ms'.length<=ms.length+1->Q b { s with heap:=h' }) :
  wpAny (model prog w) A (setAddHashed a (.int k tk) (hashInt k)) Q E s:=by
 obtain ⟨⟨o,es,ep,t,⟨ho,hex,hd⟩,⟨hel,hb,hf⟩,T,rfl⟩,nd⟩:=S
 have hlen:(es.toList.map fun e=>intOf e.2).length=es.size:=by simp
 have hkey:(intKind prog w).is k (.int k tk)=true:=intKind_is prog w k tk
 unfold setAddHashed setAddHashedIn
 refine wpAny_holding (wpAny_bind (wpAny_setState_of ho hd hf ?_))
 dsimp only
 rw[byScan_of (knd:=intKind prog w) rfl hb hel]
 simp only[↓reduceIte]
 unfold setAddByScan
 refine wpAny_bind (wpAny_bind (wpAny_rule (wpAny_bind (wpAny_setScan_of (knd:=intKind prog w) hkey ho hd hf hel ?_))))
 cases hr:List.findIdx? (fun e=>(intKind prog w).is k e.2) es.toList with
 | some j =>
  obtain ⟨hj,hpj,_⟩:=List.findIdx?_eq_some_iff_getElem.mp hr
  have hm:k∈es.toList.map fun e=>intOf e.2:=(zpc hel k).mp ⟨es.toList[j],ycp hj,hpj⟩
  refine wpAny_pure (wpAny_pure ?_)
  have z:=hQ false s.heap _ (Heap.SameBut.refl a s.heap) ⟨⟨o,es,ep,t,⟨ho,hex,hd⟩,⟨hel,hb,hf⟩,T,rfl⟩,nd⟩ (fun m=>⟨.inl,fun q=>q.elim id fun e=>e ▸ hm⟩) (by ac_rfl)
  exact z
 | none =>
  have hm:k ∉ es.toList.map fun e=>intOf e.2:=fun q=>by
   obtain ⟨e,he,hp⟩:=(zpc hel k).mpr q
   have:=List.findIdx?_eq_none_iff.mp hr e he
   rw[show (intKind prog w).is k e.2=true from hp] at this
   cases this
  dsimp only
  have hperm:=layNew_perm t es (hashInt k) (.int k tk)
  have hfits:=layNew_fits t es (hashInt k) (.int k tk)
  have T1:=zvV T es (hashInt k) (.int k tk)
  generalize layNew t es (hashInt k) (.int k tk)=L at hperm hfits T1 ⊢
  obtain ⟨es1,t1,dm,gave⟩:=L
  dsimp only at hperm hfits T1 ⊢
  rw[Array.toList_push] at hperm
  have el1:ElemsOf (intKind prog w) es1.toList:=(hel.push (k:=k) hkey rfl).perm hperm
  have sz1:es1.size=es.size+1:=by rw[<-yec,hperm.length_eq,yai,yec];rfl
  have hb1:es1.size<scanBound:=by ac_rfl
  have pm:(es1.toList.map fun e=>intOf e.2).Perm ((es.toList.map fun e=>intOf e.2)++[k]):=by
   have:=hperm.map fun e=>intOf e.2
   rw[yau] at this
   exact this
  have nd1:(es1.toList.map fun e=>intOf e.2).Nodup:=pm.nodup_iff.mpr (ycj.mpr ⟨nd,(ybt _ _),fun x hx y hy z=>hm (by rw[ybs] at hy;rw[<-hy,<-z];exact hx)⟩)
  have mm:∀ m,m∈(es1.toList.map fun e=>intOf e.2)↔m∈(es.toList.map fun e=>intOf e.2)\/m=k:=fun m=>by rw[pm.mem_iff,yaf,ybs]
  have len1:(es1.toList.map fun e=>intOf e.2).length<=(es.toList.map fun e=>intOf e.2).length+1:=by rw[pm.length_eq,yai];exact ycz _
  have fin:∀ h' es2 t2 ep2 o2,(h'.get? a=some o2/\o2.ExactSet/\o2.data=.set es2 ep2 t2)->es2.toList.Perm es1.toList->t2.fits es2.size=true->Tab (w.params.followText "set-order") t2->Heap.SameBut a s.heap h'->Q true { s with heap:=h' } :=
   fun h' es2 t2 ep2 o2 hg p2 f2 T2 sb=>by
    have q2:=p2.map fun e=>intOf e.2
    have z2:es2.size=es1.size:=by rw[<-yec,p2.length_eq,yec]
    refine hQ true h' _ sb ⟨⟨o2,es2,ep2,t2,hg,⟨el1.perm p2,by ac_rfl,f2⟩,T2,rfl⟩,q2.nodup_iff.mpr nd1⟩ (fun m=>(q2.mem_iff).trans (mm m)) ?_
    rw[q2.length_eq];exact len1
  have put:∀ {h:Heap} {o1:Obj} {e1:Array (Int × Value)} {p1:Nat} {u1:SetTable},h.get? a=some o1->o1.ExactSet->o1.data=.set e1 p1 u1->∀ (e2:Array (Int × Value)) (u2:SetTable),
    (h.update a (Obj.putSet e2 u2)).get? a=some { o1 with data:=.set e2 (p1+1) u2 }:=fun {h o1 e1 p1 u1} q1 _ q3 e2 u2=>by
   have z:=ydu (Obj.putSet e2 u2) q1 (by rw[putSet_of e2 u2 q3];rfl)
   rw[putSet_of e2 u2 q3] at z
   exact z
  have tl:∀ (Q':Option Bool->Shared->Prop),(∀ h',Q true { s with heap:=h' }->Q' (some true) { s with heap:=h' })->wpAny (model prog w) A (storeSet a es1 t1) (fun _ s1=>(dm=false/\t1.tooFull=true->∀ g:Sem Unit,(∀ Q₀:Unit->Shared->Prop,Q₀ () s1->wpAny (model prog w) A g Q₀ E s1) ->
    wpAny (model prog w) A (g >>= fun _=>storeSet a (relayAll t1 es1 (SetTable.grown es1.size)).1 (relayAll t1 es1 (SetTable.grown es1.size)).2.1 >>= fun _=>pure (some true)) Q' E s1)/\Q' (some true) s1) E s:=fun Q' hq=>by
   refine wpAny_storeSet_of ho hd ?_ (fits_of_scanBound hb1)
   have g1:=put ho hex hd es1 t1
   have sb1:=Heap.SameBut.update s.heap a (Obj.putSet es1 t1)
   refine ⟨fun _ g hg=>wpAny_bind (hg _ ?_),hq _ (fin _ es1 t1 _ _ ⟨g1,hex,rfl⟩ .rfl hfits T1 sb1)⟩
   have p2:=relayAll_perm t1 es1 (SetTable.grown es1.size)
   have f2:=relayAll_fits t1 es1 (SetTable.grown es1.size)
   have T2:=zwX T1 es1 (SetTable.grown es1.size)
   generalize relayAll t1 es1 (SetTable.grown es1.size)=L2 at p2 f2 T2 ⊢
   obtain ⟨es2,t2,gv2⟩:=L2
   dsimp only at p2 f2 T2 ⊢
   have z2:es2.size=es1.size:=by rw[<-yec,p2.length_eq,yec]
   refine wpAny_bind (wpAny_storeSet_of g1 rfl (wpAny_pure (hq _ ?_)) (fits_of_scanBound (by ac_rfl)))
   exact fin _ es2 t2 _ _ ⟨put g1 hex rfl es2 t2,hex,rfl⟩ p2 f2 T2 (sb1.trans (Heap.SameBut.update _ a _))
  refine wpAny_bind ?_
  cases gave
  all_goals
   first | refine wpAny_pure ?_ | refine wpAny_rule ?_
   split
   all_goals
    refine wpAny_bind ?_
    try rw[hashByValue_scannable 8 (show (Value.int k tk).scannable=true from rfl)]
    refine wpAny_pure ?_
    simp only[plainKind,↓reduceIte]
    refine wpAny_bind (wpAny_mono (tl (fun r s'=>wpAny (model prog w) A (match r with | some added=>pure added | none=>setAddHashedIn a (Value.int k tk) (hashInt k) 99999) Q E s') fun h' z=>wpAny_pure z) (fun _ s1 hz=>?_) fun _ _ z=>z)
    obtain ⟨hz1,hz2⟩:=hz
    split
    ·rename_i hc
     simp only[Bool.and_eq_true,Bool.not_eq_true'] at hc
     refine hz1 hc _ fun Q₀ q₀=>?_
     generalize (relayAll t1 es1 (SetTable.grown es1.size)).2.2=gb
     cases gb
     ·exact wpAny_pure q₀
     ·exact wpAny_rule q₀
    ·exact wpAny_pure hz2
end
end za6
namespace za6
theorem zds.keep {prog:Program} {w:World} {h h':Heap} {a:Addr} {ms:List Int} (S:zds prog w h a ms) (k:∀ o,h.get? a=some o->h'.get? a=some o):zds prog w h' a ms:=by
 obtain ⟨⟨o,es,ep,t,⟨ho,r⟩,r2⟩,nd⟩:=S
 exact ⟨⟨o,es,ep,t,⟨k o ho,r⟩,r2⟩,nd⟩
section
variable {prog:Program} {w:World} {A:Around} {R:Result->Shared->Prop} {I a:Addr} {fp wr:List Addr} {G:Array GenState->Array GenState->Prop} {n:Nat} {P:Nat->Value->Prop} {St:Nat->Shared->Prop} {val:Nat->Int}
theorem xloop (W:WalksS prog w A.in1 I fp wr G n P St) (ha:a ∉ fp) (hval:∀ i v,P i v->∃ t,v=.int (val i) t) (hb:n+1<scanBound):∀ (k i:Nat) (s:Shared) (ms:List Int),n-i=k->i<=n->St i s->zds prog w s.heap a ms ->
   (∀ m,m∈ms↔m∈(ybg i).map val)->ms.length<=i ->
   (∀ s' ms',Moved (a::wr) G s s'->zds prog w s'.heap a ms'->(∀ m,m∈ms'↔m∈(ybg n).map val)->ms'.length<=n->R (.ok (.ret .none)) s') ->
   codeAny (model prog w) A (.builtin "set.update.loop" ⟨[.ref a,.ref I],[]⟩) R s:=by
 have aw:a ∉ wr:=fun z=>ha (W.sub _ z)
 have sub:∀ b∈wr,b∈a::wr:=fun b z=>yam _ z
 intro k
 induction k with
 | zero =>
  intro i s ms hk hi st S mm hl hR
  obtain rfl:i=n:=by ac_rfl
  refine codeAny_builtin PyProof.Rows.F.entry_set_update_loop ?_
  rw[Around.under_plainId PyProof.Rows.F.plain_set_update_loop _]
  show wpAny _ A.in1 (pyNext (.ref I) >>= _) _ _ s
  refine wpAny_bind (W.done s _ _ st fun s' mv=>wpAny_pure (hR s' ms (mv.mono sub) (S.keep fun o e=>mv.heap a o aw e) mm hl))
 | succ k ih =>
  intro i s ms hk hi st S mm hl hR
  have lt:i<n:=by ac_rfl
  refine codeAny_builtin PyProof.Rows.F.entry_set_update_loop ?_
  rw[Around.under_plainId PyProof.Rows.F.plain_set_update_loop _]
  show wpAny _ A.in1 (pyNext (.ref I) >>= _) _ _ s
  refine wpAny_bind (W.item i s _ _ lt st fun v s' hP st' mv=>?_)
  obtain ⟨t,rfl⟩:=hval i v hP
  have S':=S.keep (h':=s'.heap) fun o e=>mv.heap a o aw e
  show wpAny _ A.in1 (holding [Value.int (val i) t] (setAdd a (.int (val i) t)) >>= _) _ _ s'
  refine wpAny_bind (wpAny_holding ?_)
  unfold setAdd
  refine wpAny_holding (wpAny_bind ((intKind prog w).pyHash (k:=val i) (intKind_is _ _ _ _) ?_))
  refine xadd (s:={ s' with toks:=s'.toks+1 }) (ms:=ms) S' (by ac_rfl) fun b h' ms' sb S2 mm2 l2=>?_
  refine wpAny_pure ⟨plainId_quiet PyProof.Rows.F.plain_set_update_loop _,ih (i+1) _ ms' (by ac_rfl) lt (W.frame _ s' _ _ st' (ydl _) fun b hb o e=>?_) S2 (fun m=>?_) (by ac_rfl) fun s2 ms2 mv2=>hR s2 ms2 ?_⟩
  ·rw[sb.2 b (fun z:b=a=>ha (by rw[<-z];exact hb))];exact e
  ·rw[mm2,mm,ycx,yau,yaf]
   simp
  ·refine Moved.trans W.gtrans ((mv.mono sub).then_heap (ydl _) fun b o hb e=>?_) mv2
   rw[sb.2 b (fun z:b=a=>hb (by rw[z];exact yas))];exact e
end
section
variable {prog:Program} {w:World} {A:Around} {E:Value->Shared->Prop} {s:Shared}
noncomputable abbrev empty (w:World):Obj:={ cls:=.type "set", dict:=none,data:=.set #[] 0 (.fresh 0 0 (!w.params.followText "set-order")) }
theorem zyn (v:Value) {R:Result->Shared->Prop} (h:R (.ok (.ret (.ref s.heap.objs.size))) { s with heap:=s.heap.push (empty w) }) :
  codeAny (model prog w) A (.call (.builtin "set.__new__") ⟨[.type "set", v],[]⟩) R s:=by
 refine codeAny_of_tree ?_
 show wpAny _ A.in1 (checkBuiltinCall "set.__new__" ⟨[.type "set", v],[]⟩ >>= fun _=>again (.builtin "set.__new__" ⟨[.type "set", v],[]⟩)) _ _ s
 refine wpAny_bind (wpAny_of_eq (PySem.F.newCall_set_1 v) (wpAny_pure ⟨plainId_quiet PySem.F.plain_set_new _,codeAny_builtin PySem.F.entry_set_new ?_⟩))
 rw[Around.under_plainId PySem.F.plain_set_new _]
 unfold Builtin.«set.__new__» Builtin.Frozenset.newClass
 have sub:=sub_set_self
 obtain ⟨hp,g,d,tk,os⟩:=s
 dsimp only
 wp_walk
 refine wpAny_askSetting (wpAny_pure ?_)
 simp only[newObj]
 refine wpAny_bind (wpAny_alloc (wpAny_pure (wpAny_pure ?_)))
 exact h
theorem ztX {h:Heap}:zds prog w (h.push (empty w)) h.objs.size [] :=
 ⟨⟨_,#[],0,_,⟨ydr _ rfl,⟨rfl,rfl,rfl⟩,rfl⟩,⟨(fun e he=>by simp at he),by decide,rfl⟩,ztU _,rfl⟩,List.Pairwise.nil⟩
end
end za6
namespace za6
section
variable {prog:Program} {w:World} {A:Around} {E:Value->Shared->Prop} {s:Shared}
theorem zrY:∀ ns:List Int,(ybg ns.length).map (fun i=>ns.getD i 0)=ns:=fun ns=>by
 apply ybz
 intro i
 rw[yaj]
 by_cases h:i<ns.length
 ·rw[ycc h,yaa h]
  simp[h]
 ·rw[yat (by rw[ycr];ac_rfl),yat (by ac_rfl)]
  rfl
theorem zxx {l:Addr} {items:Array Value} {ns:List Int} (hh:A.handled=none) (hl:s.heap.IsList l items) (hi:IntsAre items.toList ns) (hb:items.size+1<scanBound) {R:Result->Shared->Prop}
  (h:∀ h' tk ms,zds prog w h' s.heap.objs.size ms->(∀ m,m∈ms↔m∈ns)->ms.length<=ns.length->(∀ b o,b<s.heap.objs.size->s.heap.get? b=some o->h'.get? b=some o)->R (.ok (.ret .none)) { s with heap:=h',toks:=tk }) :
  codeAny (model prog w) A (.call (.builtin "set.__init__") ⟨[.ref s.heap.objs.size,.ref l],[]⟩) R { s with heap:=s.heap.push (empty w) }:=by
 have hn:items.size=ns.length:=by rw[<-IntsAre.length hi];simp
 have at0:(s.heap.push (empty w)).get? s.heap.objs.size=some (empty w):=ydr _ rfl
 have ty:Shared.TypeIs { s with heap:=s.heap.push (empty w) } (.ref s.heap.objs.size) "set" := ⟨_,at0,rfl⟩
 refine codeAny_call_builtin PySem.F.called_set.init.plain PySem.F.entry_set_init (check_set_init_1 ty ?_)
 obtain ⟨ol,hol,hcl,nl,hdl⟩:=id hl
 have lS:l<s.heap.objs.size:=ydq hol
 obtain ⟨oc,od,odt,osl⟩:=ol
 dsimp only at hcl hdl
 subst hcl hdl
 have hol':=ydp (empty w) hol
 have n1:=PySem.F.sub_list_set
 have n2:=PySem.F.sub_list_frozenset
 have n3:(Value.type "list" == Value.type "dict")=false:=by decide
 have l1:(s.heap.push (empty w)).IsList l items:=⟨_,hol',rfl,nl,rfl⟩
 unfold Builtin.«set.__init__» noKeywords Builtin.Frozenset.updateFrom
 generalize hPI:pyIter=PI
 wp_walk
 subst hPI
 refine wpAny_pyIter_list l1 (wpAny_bind (wpAny_runValue ?_))
 have h3:A.in1.in1.handled=none:=by simp[hh]
 have sz:(s.heap.push (empty w)).objs.size=s.heap.objs.size+1:=ydv _ _
 have ne:l≠(s.heap.push (empty w)).objs.size:=by rw[sz];exact yda (ydj lS)
 have nf:s.heap.objs.size ∉ [(s.heap.push (empty w)).objs.size,l]:=by
  rw[sz]
  simp only[yak,ybu,or_false,not_or]
  exact ⟨yda (ydg _),ydk lS⟩
 have S0:zds prog w ((s.heap.push (empty w)).push { cls:=.type "list_iterator", data:=.fields #[.ref l,.int 0 0] }) s.heap.objs.size []:=ztX.keep fun o e=>ydp _ e
 refine xloop (val:=fun i=>ns.getD i 0) ((Walks.list h3 _ l ne items).toS) nf (fun i v q=>IntsAre.int_at hi i v (by rw[yef];exact q)) hb (items.size-0) 0 _ [] (by ac_rfl) (ydb _)
  ?xst ?xS (fun m=>by simp) (ydb _) ?_
 case xst=>exact ⟨⟨_,ydr _ rfl,rfl,rfl⟩,l1.push _⟩
 case xS=>exact S0
 intro s' ms mv S mm len
 obtain ⟨h',g',d',tk',os'⟩:=s'
 obtain rfl:g'=s.gens:=mv.gens
 obtain rfl:d'=s.drawn:=mv.drawn
 obtain rfl:os'=s.os:=mv.os
 refine wpAny_pure ?_
 show wpAny _ _ (ret Value.none) _ _ _
 refine wpAny_pure (h h' tk' ms S (fun m=>?_) (by ac_rfl) fun b o lt e=>?_)
 ·rw[mm,hn,zrY]
 ·refine mv.heap b o ?_ (ydp _ (ydp _ e))
  rw[sz]
  simp only[yak,ybu,or_false,not_or]
  exact ⟨yda lt,yda (ydj lt)⟩
set_option maxHeartbeats 3200000 in
theorem zq8 {l:Addr} {items:Array Value} {ns:List Int} (hh:A.handled=none) (hl:s.heap.IsList l items) (hi:IntsAre items.toList ns) (hb:items.size+1<scanBound) {Q:Value->Shared->Prop}
  (h:∀ h' tk ms,zds prog w h' s.heap.objs.size ms->(∀ m,m∈ms↔m∈ns)->ms.length<=ns.length->(∀ b o,b<s.heap.objs.size->s.heap.get? b=some o->h'.get? b=some o)->Q (.ref s.heap.objs.size) { s with heap:=h',toks:=tk }) :
  wpAny (model prog w) A (call (.type "set") [.ref l]) Q E s:=by
 obtain ⟨c,tl,hmro⟩:=PySem.F.called_set.mro
 have m1:=PySem.F.called_set.made
 have m2:=PySem.F.called_set.sub
 have m3:=PySem.F.called_set.notType
 have m4:=PySem.F.called_set.canCreate
 have m5:=PySem.F.typeCall_set_1 (.ref l)
 refine wpAny_call (codeAny_of_tree ?_)
 show wpAny _ _ (callAny (.type "set") _) _ _ _
 refine wpAny_pure ⟨Code.quiet_builtin _ (by decide +kernel),codeAny_builtin PySem.F.entry_type_call ?_⟩
 rw[Around.under_plain (weight_type_call_type "set" [.ref l] []) rfl]
 repeat (any_goals (first | assumption | wp_step))
 refine zyn (.ref l) ?_
 have at0:(s.heap.push (empty w)).get? s.heap.objs.size=some (empty w):=ydr _ rfl
 have ty:Shared.TypeIs { s with heap:=s.heap.push (empty w) } (.ref s.heap.objs.size) "set" := ⟨_,at0,rfl⟩
 have i1:=PySem.F.called_set.init.lookup
 have i2:=PySem.F.called_set.init.bind (.ref s.heap.objs.size)
 show wpAny _ _ _ _ _ _
 repeat (any_goals (first | assumption | wp_step))
 refine zxx (by simp[hh]) hl hi hb fun h' tk ms S mm len kp=>?_
 show wpAny _ _ _ _ _ _
 repeat (any_goals (first | assumption | wp_step))
 exact h _ _ _ S mm len kp
end
end za6
namespace za6
theorem zga:Slot "set_iterator" "__next__" "set_iterator.__next__" := .of (owner:="set_iterator") (n:="__next__") (by rw[typeLookup_type,builtinLookup_eq_fast];kernel_rfl) (by decide +kernel) (by decide +kernel) (by decide +kernel)
 (by first | exact .inl (by decide +kernel) | exact .inr (by decide +kernel)) (by rw[isSubtype_type];kernel_rfl)
theorem zrw:Slot "set_iterator" "__iter__" "set_iterator.__iter__" := .of (owner:="set_iterator") (n:="__iter__") (by rw[typeLookup_type,builtinLookup_eq_fast];kernel_rfl) (by decide +kernel) (by decide +kernel) (by decide +kernel)
 (by first | exact .inl (by decide +kernel) | exact .inr (by decide +kernel)) (by rw[isSubtype_type];kernel_rfl)
theorem zrs:entryFor table "set_iterator.__next__" = some Builtin.«set_iterator.__next__»:=entryFor_of_tree (by kernel_rfl)
theorem zv7:entryFor table "set_iterator.__iter__" = some Builtin.«dict_keyiterator.__iter__»:=entryFor_alias (id' := "dict_keyiterator.__iter__") (by rw[fastTable_eq_tree];kernel_rfl) rfl (by rw[PySem.W.S.canonicalS_eq];kernel_rfl) (by rw[fastTable_eq_tree];kernel_rfl)
theorem zt8:entryFor table "set.__iter__" = some Builtin.«frozenset.__iter__»:=entryFor_alias (id' := "frozenset.__iter__") (by rw[fastTable_eq_tree];kernel_rfl) rfl (by rw[PySem.W.S.canonicalS_eq];kernel_rfl) (by rw[fastTable_eq_tree];kernel_rfl)
theorem zrD (a:Value):argsOk "set_iterator.__next__" ⟨[a],[]⟩:=by unfold argsOk;kernel_rfl
theorem zwo (a:Value):argsOk "set_iterator.__iter__" ⟨[a],[]⟩:=by unfold argsOk;kernel_rfl
def zbT (h:Heap) (I a:Addr) (first:Value) (i n ep:Nat):Prop:=∃ o,h.get? I=some o/\o.cls=.type "set_iterator" /\ o.data=.fields #[first,.int i 0,.ref a,.int n 0,.int ep 0]
theorem zbT.ty {s:Shared} {I a:Addr} {first:Value} {i n ep:Nat} (h:zbT s.heap I a first i n ep):s.TypeIs (.ref I) "set_iterator" := let ⟨_,a,b,_⟩:=h;⟨_,a,b⟩
theorem zbT.keep {h h':Heap} {I a:Addr} {first:Value} {i n ep:Nat} (x:zbT h I a first i n ep) (k:∀ o,h.get? I=some o->h'.get? I=some o):zbT h' I a first i n ep:=let ⟨o,a,b⟩:=x;⟨o,k o a,b⟩
def zbN (h:Heap) (a:Addr) (es:Array (Int × Value)) (ep:Nat) (t:SetTable):Prop:=∃ o,h.get? a=some o/\o.data=.set es ep t/\t.fits es.size=true
theorem zbN.keep {h h':Heap} {a:Addr} {es:Array (Int × Value)} {ep:Nat} {t:SetTable} (x:zbN h a es ep t) (k:∀ o,h.get? a=some o->h'.get? a=some o):zbN h' a es ep t:=let ⟨o,a,b⟩:=x;⟨o,k o a,b⟩
section
variable {prog:Program} {w:World} {A:Around} {E:Value->Shared->Prop} {s:Shared} {I a:Addr} {es:Array (Int × Value)} {ep:Nat} {t:SetTable}
theorem zcd {Q:(Array (Int × Value) × Nat × SetTable)->Shared->Prop} (O:zbN s.heap a es ep t) (h:Q (es,ep,t) s):wpAny (model prog w) A (setState a) Q E s:=by
 obtain ⟨o,ho,hd,hf⟩:=O
 exact wpAny_setState_of ho hd hf h
theorem znt {first:Value} {i n:Nat} {Q:Value->Shared->Prop} (h:zbT s.heap I a first i n ep) (q:Q (.ref I) s):wpAny (model prog w) A (pyIter (.ref I)) Q E s:=by
 refine wpAny_pyIter_slot h.ty zrw (wpAny_call_entry zrw h.ty zv7 ?_ (zwo _))
 exact wpAny_pure ⟨_,rfl, "set_iterator", _,h.ty,zga.lookup,q⟩
theorem znx {Q:Option Value->Shared->Prop} {h1:Heap} (hh:A.handled=none) (q:∀ h',(∀ b o,h1.get? b=some o->h'.get? b=some o)->Q none { s with heap:=h' }) :
  wpAny (model prog w) A.in1 (newExc (.type "StopIteration") [] >>= fun e=>raiseNew e:Sem Fin) (fun fin s'=>∃ v,fin=.done (.ret v)/\wpAny (model prog w) A (match (Except.ok (some v):Except Value (Option Value)) with | .ok (some v)=>pure (some v) | .ok none=>unsupported "iter:the-iterator's-class-has-lost-its-__next__-amid-the-walk" | .error e=>do if <-isInstance e (.type "StopIteration") then pure none else throw e) Q E s')
   (fun e s'=>wpAny (model prog w) A (do if <-isInstance e (.type "StopIteration") then pure none else throw e) Q E s') { s with heap:=h1 }:=by
 refine wpAny_bind ?_
 simp only[newExc,newTuple]
 refine wpAny_bind (wpAny_newObj_type ?_ (by size_fits))
 refine wpAny_bind (m:=firstArgMember _ _) (wpAny_of_eq (a:=Value.none) (by first | rfl | (simp only[firstArgMember];rfl)) ?_)
 refine wpAny_newObj_type ?_ (by size_fits)
 simp only[raiseNew]
 refine wpAny_bind (wpAny_handled ?_)
 rw[show A.in1.handled=none from hh]
 refine wpAny_bind (wpAny_pure (wpAny_throw ?_))
 refine wpAny_bind (wpAny_isInstance (T:="StopIteration") (b:=true) ⟨_,ydr _ rfl,rfl⟩ isSubtype_stop ?_)
 exact wpAny_pure (q _ fun b o e=>ydp _ (ydp _ e))
end
end za6
namespace za6
section
variable {prog:Program} {w:World} {A:Around} {E:Value->Shared->Prop} {s:Shared} {I a:Addr} {es:Array (Int × Value)} {ep:Nat} {t:SetTable}
theorem zho {h:Heap} {o:Obj} {vs:Array Value} {j:Nat} {x:Value} (ho:h.get? I=some o) (hd:o.data=.fields vs):(h.update I (Obj.mapFields (·.setIfInBounds j x))).get? I=some (Obj.mapFields (·.setIfInBounds j x) o) :=
 ydu _ ho (Obj.isFreed_of_fields (Obj.data_mapFields hd _))
theorem zpC {F i:Nat} {r:Option (Value × Nat)} {Q:Option Value->Shared->Prop} (hh:A.handled=none) (It:zbT s.heap I a (.int F 0) i es.size ep) (O:zbN s.heap a es ep t)
  (st:∀ (A':Around) (E':Value->Shared->Prop) (Q':Option (Value × Nat)->Shared->Prop),Q' r s->wpAny (model prog w) A' (setNext a F i ep) Q' E' s)
  (h1:∀ x F',r=some (x,F')->∀ h',Heap.SameBut I s.heap h'->zbT h' I a (.int F' 0) (i+1) es.size ep->Q (some x) { s with heap:=h' })
  (h2:r=none->∀ h',(∀ b o,b≠I->s.heap.get? b=some o->h'.get? b=some o)->Q none { s with heap:=h' }):wpAny (model prog w) A (pyNext (.ref I)) Q E s:=by
 obtain ⟨o,ho,hc,hd⟩:=id It
 unfold pyNext
 refine wpAny_bind (wpAny_attempt (wpAny_callSpecial?_slot (name:=Str.ofString "__next__") It.ty zga (wpAny_call_entry zga It.ty zrs ?_ (zrD _))))
 unfold Builtin.«set_iterator.__next__»
 refine wpAny_bind (wpAny_of_eq (a:=(Value.ref I,[])) rfl ?_)
 show wpAny _ _ (fieldsOf (.ref I) >>= _) _ _ s
 refine wpAny_bind (wpAny_fieldsOf ho hd ?_)
 show wpAny _ _ (setEntries a >>= _) _ _ s
 refine wpAny_bind ?_
 unfold setEntries
 refine wpAny_bind (zcd O (wpAny_pure ?_))
 dsimp only
 rw[if_neg (by simp)]
 simp only[Int.toNat_natCast]
 refine wpAny_bind (st _ _ _ ?_)
 cases r with
 | some xf =>
  obtain ⟨x,F'⟩:=xf
  refine wpAny_bind (wpAny_setField ho hd (by simp) ?_)
  have ho1:=zho (j:=0) (x:=rawInt F') ho hd
  have hd1:=Obj.data_mapFields hd (f:=(·.setIfInBounds 0 (rawInt F')))
  refine wpAny_bind (wpAny_setField ho1 hd1 (by simp) (wpAny_pure ⟨x,rfl,wpAny_pure (h1 x F' rfl _ ((Heap.SameBut.update ..).trans (Heap.SameBut.update ..)) ?_)⟩))
  refine ⟨_,zho ho1 hd1,(Obj.cls_mapFields ..).trans ((Obj.cls_mapFields ..).trans hc),?_⟩
  rw[Obj.data_mapFields hd1]
  simp[rawInt]
 | none =>
  refine wpAny_bind (wpAny_setField ho hd (by simp) ?_)
  refine znx hh fun h' k=>h2 rfl h' fun b o hb e=>k b o ?_
  exact (ydt _ _ _ _ hb).trans e
end
end za6
namespace za6
section
variable {prog:Program} {w:World} {A:Around} {E:Value->Shared->Prop} {s:Shared} {I a T:Addr} {es:Array (Int × Value)} {ep:Nat} {t:SetTable} {ps:Array Value}
def zeB (h:Heap) (T:Addr) (ps:Array Value):Prop:=∃ o n,h.get? T=some o/\o.data=.seq ps n
theorem zeB.keep {h h':Heap} (x:zeB h T ps) (k:∀ o,h.get? T=some o->h'.get? T=some o):zeB h' T ps:=let ⟨o,n,a,b⟩:=x;⟨o,n,k o a,b⟩
theorem zma {i:Nat} {Q:Option Value->Shared->Prop} (hh:A.handled=none) (It:zbT s.heap I a (.ref T) i es.size ep) (O:zbN s.heap a es ep t) (P:zeB s.heap T ps)
  (h1:∀ p,ps[i]?=some (.int p 0)->∀ k x,es[p.toNat]?=some (k,x)->∀ h',Heap.SameBut I s.heap h'->zbT h' I a (.ref T) (i+1) es.size ep->Q (some x) { s with heap:=h' })
  (h2:ps[i]?=none->∀ h',(∀ b o,b≠I->s.heap.get? b=some o->h'.get? b=some o)->Q none { s with heap:=h' })
  (hp:ps[i]?=none\/∃ p k x,ps[i]?=some (.int p 0)/\es[p.toNat]?=some (k,x)):wpAny (model prog w) A (pyNext (.ref I)) Q E s:=by
 obtain ⟨o,ho,hc,hd⟩:=id It
 obtain ⟨oT,nT,hT,hdT⟩:=P
 unfold pyNext
 refine wpAny_bind (wpAny_attempt (wpAny_callSpecial?_slot (name:=Str.ofString "__next__") It.ty zga (wpAny_call_entry zga It.ty zrs ?_ (zrD _))))
 unfold Builtin.«set_iterator.__next__»
 refine wpAny_bind (wpAny_of_eq (a:=(Value.ref I,[])) rfl ?_)
 show wpAny _ _ (fieldsOf (.ref I) >>= _) _ _ s
 refine wpAny_bind (wpAny_fieldsOf ho hd ?_)
 show wpAny _ _ (setEntries a >>= _) _ _ s
 refine wpAny_bind ?_
 unfold setEntries
 refine wpAny_bind (zcd O (wpAny_pure ?_))
 dsimp only
 rw[if_neg (by simp)]
 simp only[Int.toNat_natCast]
 refine wpAny_bind (wpAny_seqItems hT hdT ?_)
 dsimp only
 rcases hp with hp | ⟨p,k,x,hp,hx⟩
 ·rw[hp]
  refine wpAny_bind (wpAny_setField ho hd (by simp) ?_)
  have ho1:=zho (j:=0) (x:=rawInt 0) ho hd
  have hd1:=Obj.data_mapFields hd (f:=(·.setIfInBounds 0 (rawInt 0)))
  refine wpAny_bind (wpAny_setField ho1 hd1 (by simp) ?_)
  refine znx hh fun h' k=>h2 hp h' fun b o hb e=>k b o ?_
  exact (ydt _ _ _ _ hb).trans ((ydt _ _ _ _ hb).trans e)
 ·rw[hp]
  dsimp only
  refine wpAny_bind ?_
  unfold setNextDrawn
  refine wpAny_bind (zcd O ?_)
  dsimp only
  rw[if_neg (by simp),hx]
  refine wpAny_pure (wpAny_bind (wpAny_setField ho hd (by simp) (wpAny_pure ⟨x,rfl,wpAny_pure (h1 p hp k x hx _ (Heap.SameBut.update ..) ?_)⟩)))
  refine ⟨_,zho ho hd,(Obj.cls_mapFields ..).trans hc,?_⟩
  rw[Obj.data_mapFields hd]
  simp[rawInt]
theorem ztQ (hh:A.handled=none) (ne:a≠I) {F:Nat->Nat} {ord:Nat->Value} (st:∀ i,i<=es.size->∀ (s:Shared),zbN s.heap a es ep t->∀ (A':Around) (E':Value->Shared->Prop) (Q':Option (Value × Nat)->Shared->Prop),
   Q' (if i<es.size then some (ord i,F (i+1)) else none) s->wpAny (model prog w) A' (setNext a (F i) i ep) Q' E' s) :
  Walks prog w A I [I,a] [I] es.size (fun i v=>v=ord i) (fun i h=>i<=es.size/\zbT h I a (.int (F i) 0) i es.size ep/\zbN h a es ep t) where
 sub:=fun b hb=>by simp at hb;simp[hb]
 frame:=fun _ _ _ st k=>⟨st.1,st.2.1.keep fun o e=>k I (by simp) o e,st.2.2.keep fun o e=>k a (by simp) o e⟩
 item:=fun i s Q E hi h hQ=>by
  refine zpC hh h.2.1 h.2.2 (fun A' E' Q' q=>st i h.1 s h.2.2 A' E' Q' q) (fun x F' e h' sb It=>?_) fun e=>?_
  ·rw[if_pos hi] at e
   cases e
   exact hQ _ h' s.toks rfl ⟨hi,It,h.2.2.keep fun o e=>(sb.2 a ne).trans e⟩ fun b o hb e=>(sb.2 b fun z=>hb (by simp[z])).trans e
  ·rw[if_pos hi] at e;cases e
 done:=fun s Q E h hQ=>by
  refine zpC hh h.2.1 h.2.2 (fun A' E' Q' q=>st _ h.1 s h.2.2 A' E' Q' q) (fun x F' e=>?_) fun _ h' k=>hQ h' s.toks fun b o hb e=>k b o (fun z=>hb (by simp[z])) e
  rw[if_neg (ydf _)] at e;cases e
 self:=fun _ _ _ _ h q=>znt h.2.1 q
theorem zqR (hh:A.handled=none) (ne:a≠I) (nT:T≠I) {ord:List Nat} (hps:ps=(ord.map fun i:Nat=>rawInt i).toArray) (hl:ord.length=es.size) (ho:∀ i∈ord,i<es.size) :
  Walks prog w A I [I,a,T] [I] es.size (fun i v=>∃ j,ord[i]?=some j/\∃ k,es[j]?=some (k,v)) (fun i h=>i<=es.size/\(zbT h I a (.ref T) i es.size ep/\zbN h a es ep t)/\zeB h T ps) where
 sub:=fun b hb=>by simp at hb;simp[hb]
 frame:=fun _ _ _ st k=>⟨st.1,⟨st.2.1.1.keep fun o e=>k I (by simp) o e,st.2.1.2.keep fun o e=>k a (by simp) o e⟩,st.2.2.keep fun o e=>k T (by simp) o e⟩
 item:=fun i s Q E hi h hQ=>by
  have hj:i<ord.length:=by ac_rfl
  have e0:ps[i]?=some (.int (ord[i]:Nat) 0):=by rw[hps];simp[hj,rawInt]
  have hlt:=ho ord[i] (ycp hj)
  obtain ⟨⟨k0,x0⟩,q0⟩:∃ q,es[ord[i]]?=some q:=⟨_,yed hlt⟩
  refine zma hh h.2.1.1 h.2.1.2 h.2.2 (fun p ep' k x ex h' sb It=>?_) (fun e=>by rw[e0] at e;cases e) (.inr ⟨_,k0,x0,e0,by simpa using q0⟩)
  rw[e0] at ep'
  cases ep'
  refine hQ x h' s.toks ⟨ord[i],yaa hj,k,by simpa using ex⟩ ⟨hi,⟨It,h.2.1.2.keep fun o e=>(sb.2 a ne).trans e⟩,h.2.2.keep fun o e=>(sb.2 T nT).trans e⟩ fun b o hb e=>(sb.2 b fun z=>hb (by simp[z])).trans e
 done:=fun s Q E h hQ=>by
  have e0:ps[es.size]?=none:=by rw[hps];simp;ac_rfl
  exact zma hh h.2.1.1 h.2.1.2 h.2.2 (fun p ep'=>by rw[e0] at ep';cases ep') (fun _ h' k=>hQ h' s.toks fun b o hb e=>k b o (fun z=>hb (by simp[z])) e) (.inl e0)
 self:=fun _ _ _ _ h q=>znt h.2.1.1 q
end
end za6
namespace za6
theorem ziP {α:Type}:∀ (l:List α) (i:Nat) (h:i<l.length),(l[i]::l.eraseIdx i).Perm l
 | x::xs,0,_=>.refl _
 | x::xs,i+1,h=>(List.Perm.swap x _ _).trans ((ziP xs i (by simpa using h)).cons x)
theorem zrA {α:Type} (next:Nat->Nat):∀ (fuel k:Nat) (left:List α) (out:Array α),left.length=fuel->(pickOrder.go next fuel k left out).toList.Perm (out.toList++left)
 | 0,k,left,out,h=>by
  have:left=[]:=List.length_eq_zero_iff.mp h
  subst this
  unfold pickOrder.go
  simp
 | fuel+1,k,left,out,h=>by
  have lt:next k % left.length<left.length:=Nat.mod_lt _ (by ac_rfl)
  unfold pickOrder.go
  rw[yaa lt]
  dsimp only
  refine (zrA next fuel (k+1) _ _ (by rw[List.length_eraseIdx_of_lt lt,h];rfl)).trans ?_
  rw[Array.toList_push,List.append_assoc]
  refine List.Perm.append_left _ ?_
  exact ziP left _ lt
theorem zkw {α:Type} (next:Nat->Nat) (xs:Array α):(pickOrder next xs).toList.Perm xs.toList:=by
 unfold pickOrder
 simpa using zrA next xs.size 0 xs.toList #[] (by simp)
noncomputable def slotAt (t:SetTable) (i:Nat):Nat:=if i=0 then 0 else t.place.getD (i-1) 0+1
theorem below_at {t:SetTable} (h:Up t.place) {i:Nat} (hi:i<=t.place.size):SetTable.below t.place (slotAt t i)=i:=by
 obtain ⟨h0,h1,h2⟩:=zmx h (slotAt t i)
 generalize SetTable.below t.place (slotAt t i)=p at *
 have gd:∀ j,j<t.place.size->∀ d e,t.place.getD j d=t.place.getD j e:=fun j hj d e=>by simp[yeg,hj]
 by_cases hz:i=0
 ·subst hz
  refine Nat.eq_zero_of_not_pos fun hp=>?_
  have:=h1 0 hp
  unfold slotAt at this
  rw[if_pos rfl] at this
  ac_rfl
 ·have e:slotAt t i=t.place.getD (i-1) 0+1:=by unfold slotAt;rw[if_neg hz]
  rcases ydh p i with lt | rfl | gt
  ·have:=h2 (i-1) (by ac_rfl) (by ac_rfl)
   rw[gd _ (by ac_rfl) _ 0,e] at this
   ac_rfl
  ·rfl
  ·have:=h1 i gt
   have u:=zop h (i:=i-1) (j:=i) (by ac_rfl) (by ac_rfl) 0 0
   rw[gd _ (by ac_rfl) _ 0,e] at this
   ac_rfl
section
variable {prog:Program} {w:World} {a:Addr} {es:Array (Int × Value)} {ep:Nat} {t:SetTable}
theorem zsn (hb:w.params.followText "set-order" = false) (T:Tab false t) (hf:t.fits es.size=true) (hp:(!t.plain && decide (es.size > 1))=false) (i:Nat) (hi:i<=es.size) (s:Shared) (O:zbN s.heap a es ep t) (A':Around)
  (E':Value->Shared->Prop) (Q':Option (Value × Nat)->Shared->Prop) (q:Q' (if i<es.size then some ((es.getD i (0,.none)).2,slotAt t (i+1)) else none) s):wpAny (model prog w) A' (setNext a (slotAt t i) i ep) Q' E' s:=by
 have fz:t.place.size=es.size:=by simp[SetTable.fits] at hf;exact hf.1
 have up:Up t.place:=by
  by_cases pl:t.plain=true
  ·exact T.up pl
  ·have:es.size<=1:=by simp[pl] at hp;exact hp
   unfold Up
   have l1:t.place.toList.length<=1:=by rw[yec];ac_rfl
   match hq:t.place.toList,l1 with
   | [],_=>exact .nil
   | [x],_=>exact ybt _ _
   | _::_::_,z=>simp at z
 unfold setNext
 refine wpAny_bind (zcd O ?_)
 unfold setsByText
 refine wpAny_bind (wpAny_bind (wpAny_askSetting (wpAny_pure ?_)))
 rw[show (model prog w).w.params.followText "set-order" = false from hb]
 rw[if_neg Bool.false_ne_true]
 dsimp only
 show wpAny _ _ (if (!t.plain && decide (es.size > 1))=true then _ else _) _ _ _
 rw[if_neg (by rw[hp];exact Bool.false_ne_true)]
 refine wpAny_bind ?_
 show wpAny _ _ (if (!t.led && !es.isEmpty)=true then _ else _) _ _ _
 rw[if_neg (by rw[T.led];simp)]
 refine wpAny_pure ?_
 rw[below_at up (by ac_rfl)]
 refine wpAny_pure ?_
 by_cases lt:i<es.size
 ·rw[if_pos lt] at q
  rw[yed lt,yed (by ac_rfl:i<t.place.size)]
  dsimp only
  have e1:(es.getD i (0,.none)).2=es[i].2:=by simp[yeg,lt]
  have e2:slotAt t (i+1)=t.place[i]'(by ac_rfl)+1:=by simp[slotAt,yeg,show i<t.place.size by ac_rfl]
  rw[e1,e2] at q
  exact q
 ·rw[if_neg lt] at q
  rw[Array.getElem?_eq_none (by ac_rfl)]
  exact q
theorem ztd (hb:w.params.followText "set-order" = true) (i:Nat) (hi:i<=es.size) (s:Shared) (O:zbN s.heap a es ep t) (A':Around)
  (E':Value->Shared->Prop) (Q':Option (Value × Nat)->Shared->Prop) (q:Q' (if i<es.size then some (((pickOrder (w.params.setOrder a ep) es).getD i (0,.none)).2,0) else none) s):wpAny (model prog w) A' (setNext a 0 i ep) Q' E' s:=by
 have sz:(pickOrder (w.params.setOrder a ep) es).size=es.size:=by
  have:=(zkw (w.params.setOrder a ep) es).length_eq
  simpa using this
 unfold setNext
 refine wpAny_bind (zcd O ?_)
 unfold setsByText
 refine wpAny_bind (wpAny_bind (wpAny_askSetting (wpAny_pure ?_)))
 rw[show (model prog w).w.params.followText "set-order" = true from hb,if_pos rfl]
 dsimp only
 rw[if_neg (by simp)]
 refine wpAny_bind ?_
 unfold setWalk
 refine wpAny_bind (zcd O ?_)
 unfold setsByText
 refine wpAny_bind (wpAny_bind (wpAny_askSetting (wpAny_pure ?_)))
 rw[show (model prog w).w.params.followText "set-order" = true from hb,if_pos rfl]
 refine wpAny_bind (wpAny_askSetting (wpAny_pure (wpAny_pure ?_)))
 show Q' (Option.map (fun e=>(e.2,0)) (pickOrder (w.params.setOrder a ep) es)[i]?) s
 by_cases lt:i<es.size
 ·rw[if_pos lt] at q
  rw[yed (by ac_rfl)]
  have e1:((pickOrder (w.params.setOrder a ep) es).getD i (0,.none)).2=((pickOrder (w.params.setOrder a ep) es)[i]'(by ac_rfl)).2:=by simp[yeg,show i<(pickOrder (w.params.setOrder a ep) es).size by ac_rfl]
  rw[e1] at q
  exact q
 ·rw[if_neg lt] at q
  rw[Array.getElem?_eq_none (by ac_rfl)]
  exact q
end
end za6
namespace za6
section
variable {prog:Program} {w:World} {A:Around} {E:Value->Shared->Prop}
theorem zst {src:Source} {n:Nat} {s:Shared} {Q:Nat->Shared->Prop} (hn:0<n) (h:∀ i d,i<n->Q i { s with drawn:=d }):wpAny (model prog w) A (choose src n) Q E s :=
 fun Γ p hΓ=>⟨by ac_rfl,h _ _ (Nat.mod_lt _ hn)⟩
theorem zns {α:Type}:∀ (n:Nat) (xs:List α) (s:Shared) (Q:List α->Shared->Prop),xs.length=n->(∀ l d,l.Perm xs->Q l { s with drawn:=d })->wpAny (model prog w) A (drawOrder n xs) Q E s
 | 0,xs,s,Q,hl,h=>by
  have:xs=[]:=List.length_eq_zero_iff.mp hl
  subst this
  unfold drawOrder
  exact wpAny_pure (h [] s.drawn (.refl _))
 | n+1,[],s,Q,hl,h=>by simp at hl
 | n+1,x::xs,s,Q,hl,h=>by
  unfold drawOrder
  refine wpAny_bind (zst (by simp) fun i d hi=>?_)
  rw[yaa hi]
  refine wpAny_bind (zns n _ _ _ (by rw[List.length_eraseIdx_of_lt hi,hl];rfl) fun l d' hp=>wpAny_pure (h _ d' ?_))
  exact (hp.cons _).trans (ziP (x::xs) i hi)
end
theorem zpJ {P:Nat->Value->Prop} {acc:Array Value} {n:Nat} {f:Nat->Value} (h:ItemsOf P acc n) (hf:∀ i v,i<n->P i v->v=f i):acc.toList=(ybg n).map f:=by
 apply ybz
 intro j
 rw[yaj]
 by_cases lt:j<n
 ·have e:acc.toList[j]?=some (acc[j]'(by rw[h.1];exact lt)):=by rw[yef];exact yed _
  rw[e,ycc lt]
  exact congrArg some (hf j _ lt (h.2 j _ (yed _)))
 ·rw[yat (by rw[yec,h.1];ac_rfl),yat (by rw[ycr];ac_rfl)]
  rfl
theorem zhr {α β:Type} (xs:Array α) (d:α) (f:α->β):(ybg xs.size).map (fun i=>f (xs.getD i d))=xs.toList.map f:=by
 apply ybz
 intro j
 rw[yaj,yaj]
 by_cases lt:j<xs.size
 ·rw[ycc lt,yef,yed lt]
  simp[yeg,lt]
 ·rw[yat (by rw[ycr];ac_rfl),yat (by rw[yec];ac_rfl)]
  rfl
section
variable {prog:Program} {w:World} {A:Around} {E:Value->Shared->Prop} {s:Shared} {a:Addr} {es:Array (Int × Value)} {ep:Nat} {t:SetTable}
theorem zu8 {B:Around} {Q:Value->Shared->Prop} (hB:B.handled=none) (ty:s.TypeIs (.ref a) "set") (O:zbN s.heap a es ep t) (T:Tab (w.params.followText "set-order") t) (hz:es.size<=sizeLine)
  (hQ:∀ I h' d' fp P (St:Nat->Heap->Prop),Walks prog w B I fp [I] es.size P St->St 0 h'->(∀ b∈fp,b=a\/(s.heap.objs.size<=b/\b<h'.objs.size))->(∀ acc,ItemsOf P acc es.size->acc.toList.Perm (es.toList.map (·.2))) ->
   (∀ b o,s.heap.get? b=some o->h'.get? b=some o)->s.heap.objs.size<=I->Q (.ref I) { s with heap:=h',drawn:=d' }):wpAny (model prog w) A (pyIter (.ref a)) Q E s:=by
 have hf:t.fits es.size=true:=O.choose_spec.2.2
 have alt:a<s.heap.objs.size:=ydq O.choose_spec.1
 refine wpAny_pyIter_slot ty PySem.F.slot_set_iter (wpAny_call_entry PySem.F.slot_set_iter ty zt8 ?_ (PySem.F.args_set_iter_1 _))
 unfold Builtin.«frozenset.__iter__» Builtin.Frozenset.slot0
 refine wpAny_bind (wpAny_bind (wpAny_of_eq (a:=(Value.ref a,[])) rfl (wpAny_of_eq (a:=a) rfl ?_)))
 unfold Builtin.Frozenset.sizeOf setEntries
 refine wpAny_bind (wpAny_bind (wpAny_bind (zcd O (wpAny_pure (wpAny_pure ?_)))))
 unfold setDrawn setsByText
 refine wpAny_bind (wpAny_bind (zcd O (wpAny_bind (wpAny_bind (wpAny_askSetting (wpAny_pure (wpAny_pure ?_)))))))
 show wpAny _ _ (if (!w.params.followText "set-order" && (!t.plain && decide (es.size > 1)))=true then _ else _) _ _ _
 have body:∀ (first:Value) (s1:Shared),zbN s1.heap a es ep t->(∀ I h',h'=s1.heap.push { cls:=.type "set_iterator", data:=.fields #[first,.int (0:Nat) 0,.ref a,.int es.size 0,.int ep 0] }->I=s1.heap.objs.size->zbT h' I a first 0 es.size ep->zbN h' a es ep t->Q (.ref I) { s1 with heap:=h' }) ->
   wpAny (model prog w) A.in1 (setEpoch a >>= fun e=>newFields "set_iterator" [first,rawInt 0,.ref a,rawInt es.size,rawInt e] >>= fun x=>ret x) (fun fin s'=>∃ v,fin=.done (.ret v)/\∃ T' r,s'.TypeIs v T'/\typeLookup (.type T') "__next__" = pure (some r)/\Q v s') E s1:=fun first s1 O1 q=>by
  unfold setEpoch
  refine wpAny_bind (wpAny_bind (zcd O1 (wpAny_pure ?_)))
  refine wpAny_bind (wpAny_newObj_type (wpAny_pure ?_))
  have g:(s1.heap.push { cls:=.type "set_iterator", data:=.fields #[first,.int (0:Nat) 0,.ref a,.int es.size 0,.int ep 0] }).get? s1.heap.objs.size=some { cls:=.type "set_iterator", data:=.fields #[first,.int (0:Nat) 0,.ref a,.int es.size 0,.int ep 0] }:=ydr _ rfl
  exact ⟨_,rfl, "set_iterator", _,⟨_,g,rfl⟩,zga.lookup,q _ _ rfl rfl ⟨_,g,rfl,rfl⟩ (O1.keep fun o e=>ydp _ e)⟩
 have pin:∀ (F:Nat->Nat) (ord:Nat->Value),F 0=0->(∀ i,i<=es.size->∀ (s:Shared),zbN s.heap a es ep t->∀ (A':Around) (E':Value->Shared->Prop) (Q':Option (Value × Nat)->Shared->Prop),
   Q' (if i<es.size then some (ord i,F (i+1)) else none) s->wpAny (model prog w) A' (setNext a (F i) i ep) Q' E' s)->((ybg es.size).map ord).Perm (es.toList.map (·.2)) ->
   wpAny (model prog w) A.in1 (setEpoch a >>= fun e=>newFields "set_iterator" [rawInt 0,rawInt 0,.ref a,rawInt es.size,rawInt e] >>= fun x=>ret x) (fun fin s'=>∃ v,fin=.done (.ret v)/\∃ T' r,s'.TypeIs v T'/\typeLookup (.type T') "__next__" = pure (some r)/\Q v s') E s:=fun F ord F0 st pm=>by
  refine body (rawInt 0) s O fun I h' eh eI It O'=>?_
  have Ilt:I<h'.objs.size:=by rw[eh,eI,ydv];exact ydg _
  refine hQ I h' s.drawn [I,a] _ _ (ztQ (prog:=prog) (w:=w) (A:=B) hB (by rw[eI];exact yda alt) st) ⟨ydb _,by rw[F0];exact It,O'⟩ (fun b hb=>?_) (fun acc hacc=>?_) (fun b o e=>by rw[eh];exact ydp _ e) (by rw[eI];exact ycz _)
  ·simp only[yak,ybu,or_false] at hb
   rcases hb with rfl | rfl
   ·exact .inr ⟨by rw[eI];exact ycz _,Ilt⟩
   ·exact .inl rfl
  ·rw[zpJ hacc fun i v _ q=>q]
   exact pm
 by_cases hd:(!w.params.followText "set-order" && (!t.plain && decide (es.size > 1)))=true
 ·rw[if_pos hd]
  refine wpAny_bind (zns es.size (ybg es.size) s _ (by simp) fun ord d hp=>?_)
  have ol:ord.length=es.size:=by rw[hp.length_eq];simp
  refine wpAny_bind (wpAny_newObj_type ?_ ?_)
  ·refine body (.ref s.heap.objs.size) { s with heap:=s.heap.push { cls:=.type "tuple", data:=.seq (ord.map fun i:Nat=>rawInt i).toArray },drawn:=d } (O.keep fun o e=>ydp _ e) fun I h' eh eI It O'=>?_
   have eI':I=s.heap.objs.size+1:=by rw[eI];exact ydv _ _
   have Ilt:h'.objs.size=s.heap.objs.size+2:=by rw[eh,ydv,ydv]
   have P:zeB h' s.heap.objs.size (ord.map fun i:Nat=>rawInt i).toArray:=⟨_,_,by rw[eh];exact ydp _ (ydr _ rfl),rfl⟩
   refine hQ I h' d [I,a,s.heap.objs.size] _ _ (zqR (prog:=prog) (w:=w) (A:=B) hB (by rw[eI'];exact yda (ydj alt)) (by rw[eI'];exact yda (ydg _)) rfl ol fun i hi=>by
    have:=hp.mem_iff.mp hi
    simpa using this) ⟨ydb _,⟨It,O'⟩,P⟩ (fun b hb=>?_) (fun acc hacc=>?_) (fun b o e=>by rw[eh];exact ydp _ (ydp _ e)) (by rw[eI'];exact ydl _)
   ·simp only[yak,ybu,or_false] at hb
    rcases hb with rfl | rfl | rfl
    ·exact .inr ⟨by rw[eI'];exact ydl _,by rw[Ilt,eI'];exact ydg _⟩
    ·exact .inl rfl
    ·exact .inr ⟨ycz _,by rw[Ilt];exact ydj (ydg _)⟩
   ·have e1:acc.toList=(ybg es.size).map fun i=>(es.getD (ord.getD i 0) (0,.none)).2:=zpJ hacc fun i v lt ⟨j,hj,k,hk⟩=>by
     have hlt:j<es.size:=by
      have:=hp.mem_iff.mp (yae hj)
      simpa using this
     have hi:i<ord.length:=by ac_rfl
     rw[yaa hi] at hj
     cases hj
     rw[yed hlt] at hk
     cases hq:es[ord[i]]
     rw[hq] at hk
     cases hk
     simp[yeg,hi,hlt,hq]
    rw[e1]
    have e2:(ybg es.size).map (fun i=>(es.getD (ord.getD i 0) (0,.none)).2)=ord.map fun j=>(es.getD j (0,.none)).2:=by
     have:=zhr ord.toArray 0 fun j=>(es.getD j (0,.none)).2
     simpa [ol] using this
    rw[e2,<-zhr es (0,.none) (·.2)]
    exact hp.map _
  ·show (ord.map fun i:Nat=>rawInt i).toArray.size<=sizeLine
   simp[ol,hz]
 ·rw[if_neg hd]
  refine wpAny_bind (wpAny_pure ?_)
  cases hb:w.params.followText "set-order" with
  | true =>
   refine pin (fun _=>0) (fun i=>((pickOrder (w.params.setOrder a ep) es).getD i (0,.none)).2) rfl (fun i hi s O A' E' Q' q=>ztd hb i hi s O A' E' Q' q) ?_
   have sz:(pickOrder (w.params.setOrder a ep) es).size=es.size:=by
    have:=(zkw (w.params.setOrder a ep) es).length_eq
    simpa using this
   rw[<-sz,zhr]
   exact (zkw _ _).map _
  | false =>
   have T':=T
   rw[hb] at T'
   rw[hb] at hd
   refine pin (slotAt t) (fun i=>(es.getD i (0,.none)).2) rfl (fun i hi s O A' E' Q' q=>zsn hb T' hf (by simpa using hd) i hi s O A' E' Q' q) ?_
   rw[zhr]
end
end za6
namespace za6
theorem zvX:typeLookup (.type "set") "__len__" = pure (some (.builtin "set.__len__")):=by rw[typeLookup_type,builtinLookup_eq_fast];kernel_rfl
theorem zvu {M:Model} {A:Around} {α:Type} {Q:α->Shared->Prop} {E:Value->Shared->Prop} {s:Shared} {c:Prop} [Decidable c] {x y:Sem α} (hc:c) (h:wpAny M A x Q E s):wpAny M A (if c then x else y) Q E s:=by rw[if_pos hc];exact h
theorem zwu {M:Model} {A:Around} {α:Type} {Q:α->Shared->Prop} {E:Value->Shared->Prop} {s:Shared} {c:Prop} [Decidable c] {x y:Sem α} (hc:¬ c) (h:wpAny M A y Q E s):wpAny M A (if c then x else y) Q E s:=by rw[if_neg hc];exact h
section
variable {prog:Program} {w:World} {A:Around} {E:Value->Shared->Prop} {s:Shared} {a:Addr} {es:Array (Int × Value)} {ep:Nat} {t:SetTable}
theorem zu7 {Q:Bool->Shared->Prop} (ty:s.TypeIs (.ref a) "set") (q:Q false s):wpAny (model prog w) A (Builtin.List.listLengthHint (.ref a)) Q E s:=by
 unfold Builtin.List.listLengthHint
 refine wpAny_bind (wpAny_specialOf ty zvX ?_)
 generalize hid:("set.__len__" : String)=id0
 have h1:splitId id0=some ("set", "__len__"):=by subst hid;decide +kernel
 dsimp only
 rw[h1]
 subst hid
 refine wpAny_bind (wpAny_isInstance (b:=true) ty (by rw[isSubtype_type];kernel_rfl) ?_)
 refine zwu (by simp) (zvu (by decide +kernel) (wpAny_bind (wpAny_typeOf ty ?_)))
 exact wpAny_pure q
theorem zqK {Q:List Value->Shared->Prop} (hh:A.handled=none) (ty:s.TypeIs (.ref a) "set") (O:zbN s.heap a es ep t) (T:Tab (w.params.followText "set-order") t) (hz:es.size<=sizeLine)
  (hQ:∀ vs h' d' tk,vs.Perm (es.toList.map (·.2))->(∀ b o,s.heap.get? b=some o->h'.get? b=some o)->Q vs { s with heap:=h',drawn:=d',toks:=tk }):wpAny (model prog w) A (collect (.ref a)) Q E s:=by
 have alt:a<s.heap.objs.size:=ydq O.choose_spec.1
 unfold collect
 refine wpAny_bind (wpAny_runValue (codeAny_builtin PySem.F.entry_proto_collect ?_))
 rw[Around.under_plainId PySem.F.plain_proto_collect _]
 show wpAny _ A.in1 (newList [] >>= fun l=>again (.builtin "list.__iadd__" ⟨[l,.ref a],[]⟩)) _ _ s
 refine wpAny_bind (wpAny_newObj_type ?_)
 refine wpAny_pure ⟨plainId_quiet PySem.F.plain_list_iadd _,codeAny_builtin PySem.F.entry_list_iadd ?_⟩
 rw[Around.under_plainId PySem.F.plain_list_iadd _]
 show wpAny _ A.in1 (Builtin.List.listExtendWith (.ref s.heap.objs.size) (.ref a) (.ref s.heap.objs.size)) _ _ _
 have ne:Builtin.List.listSameRef (.ref s.heap.objs.size) (.ref a)=false:=by
  have:s.heap.objs.size≠a:=ydk alt
  simp[Builtin.List.listSameRef,this]
 obtain ⟨oa,hoa,hca⟩:=id ty
 have ty1:({ s with heap:=s.heap.push { cls:=.type "list", data:=.seq ([]:List Value).toArray } }:Shared).TypeIs (.ref a) "set" := ⟨oa,ydp _ hoa,hca⟩
 unfold Builtin.List.listExtendWith
 refine wpAny_bind (wpAny_typeOf ty1 ?_)
 rw[if_neg (by rw[ne];decide)]
 refine wpAny_bind (zu8 (B:=A.in1) (by simp[hh]) ty1 (O.keep fun o e=>ydp _ e) T hz fun I h' d' fp P St W st0 hfp pm kp hI=>?_)
 have S1:h'.get? s.heap.objs.size=some { cls:=.type "list", data:=.seq ([]:List Value).toArray }:=kp _ _ (ydr _ rfl)
 refine wpAny_bind (wpAny_holding (zu7 ⟨oa,kp _ _ (ydp _ hoa),hca⟩ ?_))
 refine zvu (by decide +kernel) (wpAny_bind (wpAny_rule (wpAny_bind ?_)))
 unfold Builtin.List.listTouch
 have g1:(h'.update s.heap.objs.size (Obj.mapSeq (·.push Value.none))).get? s.heap.objs.size=some { cls:=.type "list", data:=.seq #[.none] 1 }:=ydu _ S1 rfl
 have g2:((h'.update s.heap.objs.size (Obj.mapSeq (·.push Value.none))).update s.heap.objs.size (Obj.mapSeq (·.pop))).get? s.heap.objs.size=some { cls:=.type "list", data:=.seq #[] 2 }:=ydu _ g1 rfl
 refine wpAny_bind (listUpdate_at S1 rfl (listUpdate_at g1 rfl ?_ (by decide) (by decide)) (by decide) (by decide))
 have Sf:s.heap.objs.size ∉ fp:=fun z=>by
  rcases hfp _ z with e | ⟨e,_⟩
  ·exact absurd alt (by rw[<-e];exact ydf _)
  ·rw[ydv] at e
   exact Nat.not_succ_le_self _ e
 have st1:St 0 ((h'.update s.heap.objs.size (Obj.mapSeq (·.push Value.none))).update s.heap.objs.size (Obj.mapSeq (·.pop))):=W.frame 0 h' _ st0 fun b hb o e=>by
  have nb:b≠s.heap.objs.size:=fun z=>Sf (z ▸ hb)
  exact (ydt _ _ _ _ nb).trans ((ydt _ _ _ _ nb).trans e)
 refine wpAny_pure ⟨plainId_quiet PySem.F.plain_extend_loop _,codeAny_extend_loopS W.toS hz _ Sf _ es.size 0 _ #[] 2 rfl (ydb _) st1 g2 (ItemsOf.nil P) fun s' acc c mv S' hacc=>?_⟩
 show wpAny _ A (load s.heap.objs.size >>= _) _ _ s'
 refine wpAny_bind (wpAny_load S' (wpAny_pure ?_))
 obtain ⟨h2,g',d2,tk',os'⟩:=s'
 obtain rfl:g'=s.gens:=mv.gens
 obtain rfl:os'=s.os:=mv.os
 refine hQ acc.toList h2 d2 tk' (pm acc hacc) fun b o e=>mv.heap b o ?_ ?_
 ·intro z
  have lt:=ydq e
  rcases yak.mp z with z | z
  ·exact absurd lt (by rw[z];exact ydf _)
  ·have z':b=I:=by simpa using z
   rw[z'] at lt
   have:s.heap.objs.size+1<=I:=by rw[<-ydv];exact hI
   exact absurd (ydd lt (yde (ydl _) this)) (ydf _)
 ·have nb:b≠s.heap.objs.size:=yda (ydq e)
  exact (ydt _ _ _ _ nb).trans ((ydt _ _ _ _ nb).trans (kp b o (ydp _ e)))
end
end za6
namespace za6
theorem zrH:∀ {vs:List Value},(∀ v∈vs,∃ m t,v=.int m t)->IntsAre vs (vs.map intOf)
 | [],_=>.nil
 | v::vs,h=>by
  obtain ⟨m,t,rfl⟩:=h v (yas)
  exact .cons m t (zrH fun v hv=>h v (yam _ hv))
section
variable {prog:Program} {w:World} {A:Around} {E:Value->Shared->Prop} {s:Shared} {a:Addr} {ms:List Int}
theorem zr9 {Q:Value->Shared->Prop} (hh:A.handled=none) (S:zds prog w s.heap a ms) (h64:ms.length<64)
  (h:∀ h' d' tk (out:Array Value) ns' p n,IntsAre out.toList ns'->ns'.Perm ms->ns'.Pairwise (·<=·)->(∀ b o,s.heap.get? b=some o->h'.get? b=some o)->s.heap.get? p=none->h'.get? p=some (seqObj "list" out n)->Q (.ref p) { s with heap:=h',drawn:=d',toks:=tk }) :
  wpAny (model prog w) A (call (.builtin "sorted") [.ref a]) Q E s:=by
 obtain ⟨⟨o,es,ep,t,⟨ho,hex,hd⟩,⟨hel,hb,hf⟩,T,rfl⟩,nd⟩:=S
 have lz:es.size<64:=by simpa using h64
 refine Calls.call_function_entry kind_sorted plain_sorted entry_sorted (args_sorted1 _) ?_
 unfold Builtin.«sorted»
 refine wpAny_bind (m:=checkCount "sorted" 1 1 _) (wpAny_pure ?_)
 refine wpAny_bind (zqK (by simp[hh]) ⟨o,ho,hex.1⟩ ⟨o,ho,hd,hf⟩ T (by rw[sizeLine_eq];ac_rfl) fun vs h1 d1 tk1 pm kp=>?_)
 have vi:IntsAre vs (vs.map intOf):=zrH fun v hv=>by
  obtain ⟨e,he,rfl⟩:=yah.mp (pm.mem_iff.mp hv)
  obtain ⟨⟨k,hk,_⟩,_⟩:=hel e he
  obtain ⟨t,e2⟩:=Value.isInt_shape (show Value.isInt k e.2=true from hk)
  exact ⟨k,t,e2⟩
 have vp:(vs.map intOf).Perm (es.toList.map fun e=>intOf e.2):=by
  have:=pm.map intOf
  rwa [ybf] at this
 have vl:vs.length<64:=by rw[pm.length_eq];simpa using lz
 have sl:vs.length<=sizeLine:=by rw[sizeLine_eq];ac_rfl
 refine wpAny_bind (wpAny_newList ?_ (by first | exact sl | simpa using sl))
 have g0:(h1.push (seqObj "list" vs.toArray 0)).get? h1.objs.size=some (seqObj "list" vs.toArray 0):=ydr _ rfl
 have ol:s.heap.get? h1.objs.size=none:=by
  cases q:s.heap.get? h1.objs.size with
  | none=>rfl
  | some u=>exact absurd (ydq (kp _ _ q)) (ydf _)
 show wpAny _ _ _ _ _ { s with heap:=h1.push (seqObj "list" vs.toArray 0),drawn:=d1,toks:=tk1 }
 refine wpAny_bind (wpAny_holding (wpAny_call_entry slot_list_sort ⟨_,g0,rfl⟩ entry_list_sort (list_sort_tree g0 vi vl fun out ns' a1 a2 a3=>⟨_,rfl,?_⟩) (args_list_sort _)))
 obtain ⟨n,g1⟩:=sortedHeap_at (out:=out) g0
 refine wpAny_pure ⟨_,rfl,h _ _ _ out ns' h1.objs.size n a1 (a2.trans vp) a3 (fun b u e=>?_) ol g1⟩
 have e1:=kp b u e
 have lt:=ydq e1
 rw[sortedHeap_old (yda lt) (by rw[size_push'];exact ydj lt)]
 exact ydp _ e1
end
end za6
noncomputable def zsG (P:Program) (w:World) (a:Addr) (ms:List Int):HO:=.ext fun h=>za6.zds P w h a ms
theorem za6.zds.obj {P:Program} {w:World} {h:Heap} {a:Addr} {ms:List Int} (S:za6.zds P w h a ms):∃ o,h.get? a=some o:=let ⟨⟨o,_,_,_,⟨e,_⟩,_⟩,_⟩:=S;⟨o,e⟩
section
variable {X:Cx} {pins:List (Addr × Obj)} {σ:St} {H:Hp} {s:Shared}
theorem Inv.drew (I:Inv X pins σ H s) (d:Drawn):Inv X pins σ H { s with drawn:=d }:=⟨I.ok,I.os,I.bare,I.base,I.loc,I.cell,I.free,I.freeC,I.pin,I.hok,I.len⟩
theorem zfg (hc:X.calm=true):zbh X (.type "set") (fun xs H Q=>∃ (l:Addr) (ns:List Int),xs=[.ref l]/\SqL X.K H l (ns.map V.int)/\ns.length<4000 /\
  ∀ (p:Addr) (H':Hp) (ms:List Int),H p=none->Same H H'->H' p=some (zsG X.prog X.w p ms)->ms.Nodup->(∀ m,m∈ms↔m∈ns)->ms.length<=ns.length->Q (.ref p) H'):=by
 intro pins s σ H xs us Q I r h
 obtain ⟨l,ns,rfl,hq,hl,q⟩:=h
 obtain ⟨u,rfl,rx⟩:=vals1 r
 cases rx
 obtain ⟨its,rv,pl,hz⟩:=I.list hq
 have len:its.length=ns.length:=by rw[<-rv.length,yab]
 refine za6.zq8 (I.ok.hd hc) pl.isList (by simpa using zbV rv) (by show its.toArray.size+1<4096;simp;ac_rfl) fun h' tk ms S mm lm kp=>?_
 have k:∀ b o,s.heap.get? b=some o->h'.get? b=some o:=fun b o e=>kp b o (ydq e) e
 refine ⟨.ref s.heap.objs.size,_,I.laid (o:=zsG X.prog X.w s.heap.objs.size ms) k (ycz _) ⟨S,S.obj,fun h1 h2 p e=>p.keep e⟩,rfl,q _ _ ms (I.hok.fresh (ycz _)) (ze (I.hok.fresh (ycz _)) _) zg S.nd mm lm⟩
theorem zcy (hc:X.calm=true) (hex:X.ex=[]:=by rfl):zbh X (.builtin "sorted") (fun xs H Q=>∃ (p:Addr) (ms:List Int),xs=[.ref p]/\H p=some (zsG X.prog X.w p ms)/\ms.length<64 /\
  ∀ (l:Addr) (H':Hp) (ns:List Int),H l=none->Same H H'->H' l=some (.lst (ns.map V.int))->ns.Perm ms->ns.Pairwise (·<=·)->Q (.ref l) H'):=by
 intro pins s σ H xs us Q I r h
 obtain ⟨p,ms,rfl,hp,hl,q⟩:=h
 obtain ⟨u,rfl,rx⟩:=vals1 r
 cases rx
 refine za6.zr9 (I.ok.hd hc) (I.hok p _ hp).1 hl fun h' d' tk out ns l n a1 a2 a3 kp new at_=>?_
 have vl:Vals (ns.map V.int) out.toList:=zjJ a1
 have nl:(ns.map V.int).length<=sizeLine:=by rw[yab,a2.length_eq,sizeLine_eq];ac_rfl
 have I1:Inv X pins σ (upd H l (.lst (ns.map V.int))) { s with heap:=h',toks:=tk }:=I.zpt kp new hex ⟨nl,out.toList,n,vl,by simpa [seqObj] using at_⟩
 exact ⟨.ref l,_,I1.drew d',rfl,q l _ ns (I.hok.gone new) (ze (I.hok.gone new) _) zg a2 a3⟩
end
theorem zhc {ns ms:List Int} (p:ns.Perm ms) (nd:ms.Nodup) (o:ns.Pairwise (·<=·)):ns.Pairwise (·<·):=by
 have n:=p.nodup_iff.mpr nd
 refine (o.and n).imp fun {a b} h=>?_
 have:=h.1
 have:=h.2
 ac_rfl
section
variable {X:Cx} {pins:List (Addr × Obj)} {σ:St} {H:Hp} {s:Shared} {h':Heap}
end
theorem zkr {K:W.Frag} {ix:List Nat} {te:TE} {σ:St} {a l:Addr} {xs:List V} {H:Hp} {R:Hp->Prop} (P:Nat->V->Prop) (ha:SqL K H a xs) (hl:H l=none) (hz:xs.length<=sizeLine)
  (hel:∀ i x H' Q',xs[i]?=some x->Same H H'->(∀ v,P i v->Q' v H')->te (some x::capts σ ix) H' Q') (fin:∀ ys:List V,ys.length=xs.length->(∀ j v,ys[j]?=some v->P j v)->R (upd H l (.lst ys))) :
  ∃ W:Nat->Nat->List V->Hp->Prop,(∃ m,W 0 m [] (upd H l (.lst [])))/\Turns ix te σ (Itl K a) l R W:=by
 refine ⟨fun i m ys H'=>m=xs.length-i/\i<=xs.length/\ys.length=i/\(∀ j v,ys[j]?=some v->P j v)/\H'=upd H l (.lst ys),⟨xs.length,by simp,ydb _,rfl,(fun j v e=>by simp at e),rfl⟩,?_⟩
 rintro i m ys H' ⟨rfl,hi,hx,hp,rfl⟩
 have hT:SqL K (upd H l (.lst ys)) a xs:=(ze hl _).seq ha
 refine ⟨zg,?_⟩
 by_cases hlt:i<xs.length
 ·have ex:xs[i]?=some xs[i]:=yaa hlt
  refine .inr ⟨⟨xs,_,hT,ex⟩,by ac_rfl,fun x H2 y=>?_⟩
  obtain ⟨e,y⟩:=y
  subst e
  have e2:=y xs hT
  refine hel i x _ _ e2 (ze hl _) fun v hv=>⟨zg,xs.length-(i+1),by ac_rfl,rfl,hlt,by rw[yai,hx];rfl,fun j w e=>?_,by rw[zZ]⟩
  by_cases hj:j<ys.length
  ·rw[ybk hj] at e
   exact hp j w e
  ·by_cases hj2:j=ys.length
   ·subst hj2
    rw[ybh (ycz _),ydn] at e
    cases e
    rw[hx]
    exact hv
   ·rw[yat (by rw[yai,ybr];ac_rfl)] at e
    cases e
 ·exact .inl ⟨⟨xs,hT,by ac_rfl⟩,fin ys (by ac_rfl) hp⟩
theorem zaz {X:Cx} (K:W.Frag) (h:X.K=K:=by rfl):IxR X (zw8 K):=by subst h;exact zah
theorem zeG {X:Cx} (K:W.Frag) (h:X.K=K:=by rfl):IxR X (zxc K):=by subst h;exact zB
inductive zA (K:W.Frag) (H:Hp):List V->List (Int × Int)->Prop
 | nil:zA K H [] []
 | cons {p:Addr} {s:Int × Int} {xs:List V} {l:List (Int × Int)}:H p=some (.tup [.int s.1,.int s.2])->zA K H xs l->zA K H (.ref p::xs) (s::l)
section
variable {K:W.Frag} {H H':Hp} {xs ys zs:List V} {l:List (Int × Int)} {p:Addr} {s:Int × Int}
theorem zA.get (r:zA K H xs l):∀ {i:Nat} {x:V},xs[i]?=some x->∃ p s,x=.ref p/\l[i]?=some s/\H p=some (.tup [.int s.1,.int s.2]):=by
 induction r with
 | nil=>intro i x e;simp at e
 | cons h _ ih =>
  intro i x e
  cases i with
  | zero=>cases e;exact ⟨_,_,rfl,rfl,h⟩
  | succ i=>exact ih e
theorem zA.length (r:zA K H xs l):xs.length=l.length:=by
 induction r with
 | nil=>rfl
 | cons _ _ ih=>simp[ih]
theorem zA.same (r:zA K H xs l) (s:Same H H'):zA K H' xs l:=by
 induction r with
 | nil=>exact .nil
 | cons h _ ih=>exact .cons (s _ _ h) ih
theorem zA.put (r:zA K H xs l) (hp:H p=some (.lst ys)):zA K (upd H p (.lst zs)) xs l:=by
 induction r with
 | nil=>exact .nil
 | cons h _ ih=>exact .cons (by rw[zr (zau h hp (by intro z;cases z))];exact h) ih
theorem zA.push (r:zA K H xs l) (h:H p=some (.tup [.int s.1,.int s.2])):zA K H (xs++[.ref p]) (l++[s]):=by
 induction r with
 | nil=>exact .cons h .nil
 | cons h' _ ih=>exact .cons h' ih
noncomputable def zlO (s:Int × Int):PyData:=.tuple [.int s.1,.int s.2]
theorem zA.rd (r:zA K H xs l):zfP K H xs (l.map zlO):=by
 induction r with
 | nil=>exact .nil
 | cons h _ ih=>exact .cons (.tup (SqT.of h) (.cons (.int _) (.cons (.int _) .nil))) ih
end
theorem zle:∀ l:List (Int × Int),PyData.canLayAll0 (l.map zlO)=true
 | []=>by simp[PyData.canLayAll0]
 | s::l=>by simp[PyData.canLayAll0,PyData.canLay0,zlO,zle l]
theorem zms:∀ l:List (Int × Int),PyData.depthAll (l.map zlO)<=1
 | []=>by simp[PyData.depthAll]
 | s::l=>by
  have:=zms l
  simp[PyData.depthAll,PyData.depth,zlO]
  ac_rfl
theorem zra (l:List (Int × Int)):SeqAt.shaped (.list (l.map zlO))=true:=by
 have:=zms l
 simp[SeqAt.shaped,PyData.canLay0,PyData.depth,zle]
 ac_rfl
theorem zmZ {ys:List V} {ns:List Int} (h:ys.length=ns.length) (p:∀ j v,ys[j]?=some v->v=V.int (ns.getD j 0)):ys=ns.map V.int:=by
 apply ybz
 intro j
 rw[yaj]
 by_cases hj:j<ys.length
 ·have e:=yaa (l:=ys) hj
  rw[e,p j _ e,yaa (by ac_rfl:j<ns.length)]
  simp[show j<ns.length by ac_rfl]
 ·rw[yat (by ac_rfl),yat (by ac_rfl)]
  rfl
structure zgy (J:It) (H:Hp) (xs:List V):Prop where
 go:∀ i H',Same H H'->i<xs.length->J.go i H'
 yld:∀ i H' x H2,Same H H'->J.yld i H' x H2->H2=H'/\xs[i]?=some x
 stop:∀ i H',Same H H'->xs.length<=i->J.stop i H'
theorem zO {K:W.Frag} {H:Hp} {a:Addr} {xs:List V} (h:SqL K H a xs):zgy (Itl K a) H xs :=
 ⟨fun i H' s hi=>⟨xs,_,s.seq h,yaa hi⟩,fun i H' x H2 s y=>⟨y.1,y.2 xs (s.seq h)⟩,fun i H' s hi=>⟨xs,s.seq h,hi⟩⟩
theorem zpV {J:It} {ix:List Nat} {te:TE} {σ:St} {l:Addr} {xs:List V} {H:Hp} {R:Hp->Prop} (Y:zgy J H xs) (hl:H l=none) (hz:xs.length<=sizeLine) (P:Nat->V->Hp->Prop)
  (mono:∀ i v H1 H2,Same H1 H2->P i v H1->P i v H2) (put:∀ i v H1 ys zs,H1 l=some (.lst ys)->P i v H1->P i v (upd H1 l (.lst zs)))
  (hel:∀ i x H' Q',xs[i]?=some x->Same H H'->(∀ v H2,Same H' H2->P i v H2->Q' v H2)->te (some x::capts σ ix) H' Q')
  (fin:∀ ys H',Same H H'->H' l=some (.lst ys)->ys.length=xs.length->(∀ j v,ys[j]?=some v->P j v H')->R H') :
  ∃ W:Nat->Nat->List V->Hp->Prop,(∃ m,W 0 m [] (upd H l (.lst [])))/\Turns ix te σ J l R W:=by
 refine ⟨fun i m ys H'=>m=xs.length-i/\i<=xs.length/\ys.length=i/\(∀ j v,ys[j]?=some v->P j v H')/\Same H H'/\H' l=some (.lst ys),⟨xs.length,by simp,ydb _,rfl,(fun j v e=>by simp at e),ze hl _,zg⟩,?_⟩
 rintro i m ys H' ⟨rfl,hi,hx,hp,sH,hL⟩
 refine ⟨hL,?_⟩
 by_cases hlt:i<xs.length
 ·refine .inr ⟨Y.go i H' sH hlt,by ac_rfl,fun x H2 y=>?_⟩
  obtain ⟨rfl,e2⟩:=Y.yld i H' x H2 sH y
  refine hel i x _ _ e2 sH fun v H3 s3 hv=>⟨s3 _ _ hL,xs.length-(i+1),by ac_rfl,rfl,hlt,by rw[yai,hx];rfl,fun j w e=>?_,zN (sH.trans s3) hl,zg⟩
  by_cases hj:j<ys.length
  ·rw[ybk hj] at e
   exact put _ _ _ _ _ (s3 _ _ hL) (mono _ _ _ _ s3 (hp j w e))
  ·by_cases hj2:j=ys.length
   ·subst hj2
    rw[ybh (ycz _),ydn] at e
    cases e
    rw[hx]
    exact put _ _ _ _ _ (s3 _ _ hL) hv
   ·rw[yat (by rw[yai,ybr];ac_rfl)] at e
    cases e
 ·exact .inl ⟨Y.stop i H' sH (by ac_rfl),fin ys H' sH hL (by ac_rfl) hp⟩
theorem zm0 (n d k:Nat):HT.sIx n d (some (k:Int))=min k n:=by
 show (if (k:Int)<0 then ((k:Int)+(n:Int)).toNat else min (k:Int).toNat n)=min k n
 rw[if_neg (by ac_rfl)]
 rfl
theorem zrk (xs:List V) (k:Nat):zhX xs (some (k:Int)) none=xs.drop k:=by
 unfold zhX
 rw[zm0,show HT.sIx xs.length xs.length none=xs.length from rfl]
 by_cases h:k<=xs.length
 ·rw[Nat.min_eq_left h,yaz (by rw[yct];exact ycz _)]
 ·rw[Nat.min_eq_right (by ac_rfl),List.drop_of_length_le (ycz _),List.drop_of_length_le (by ac_rfl),List.take_nil]
theorem zmD {K:W.Frag} {H:Hp}:∀ {ys:List V} {l:List (Int × Int)},ys.length=l.length->(∀ (j:Nat) v s,ys[j]?=some v->l[j]?=some s->∃ p,v=.ref p/\H p=some (.tup [.int s.1,.int s.2]))->zA K H ys l
 | [],[],_,_=>.nil
 | y::ys,s::l,e,h=>by
  obtain ⟨p,rfl,hp⟩:=h 0 y s rfl rfl
  exact .cons hp (zmD (by simpa using e) fun j v u h1 h2=>h (j+1) v u h1 h2)
 | [],_::_,e,_=>by simp at e
 | _::_,[],e,_=>by simp at e
end L2
namespace L2
open PySem
end L2
namespace L2
open PySem PySem.Spec PyProof.Rows
section
variable {X:Cx} {pins:List (Addr × Obj)} {σ:St} {H:Hp} {s:Shared} {sc:Scope} {x:Str} {ix:List Nat} {fp:List Addr} {elt iter c:Expr} {te:TE} {tt:TT} {wi:TI} {px pos:Pos}
theorem zj1 {y:Str} {i:Nat} {py spos:Pos} (hN:X.N.Nodup) (hiy:X.N[i]?=some y) (hy:X.env.scope.names.lookup y=some .local) (O:zfo X sc x ix) (hi:PI X (.Name x px) iter wi) (htt:∀ b,PT (X.block sc x ix b) c tt) (hel:∀ b,PE (X.block sc x ix b) elt te)
  (hc:X.calm=true:=by rfl) (hs:∀ v,foldedSetIterable iter X.env v=pure v:=by intro _;rfl) (hsw:swapsWith (.ListComp elt [⟨.Name x px,iter,[c],0⟩] sc pos) (some (.Name y py)) spos.line X.env=pure true:=by rfl) :
  PS X (.Assign [.Name y py] (.ListComp elt [⟨.Name x px,iter,[c],0⟩] sc pos) spos) (zo8 (zro ix wi tt te) (zb9 i)):=by
 intro pins s σ H D I h
 rw[exec_Assign_Name_used _ _ _ _ hsw]
 refine wpAny_bind (wpAny_standAt (wpAny_bind ?_))
 show wpAny _ X.A (do let _ <-comprehension (.ListComp elt [⟨.Name x px,iter,[c],0⟩] sc pos) sc X.env _ (newList []) false (eval iter X.env) (some (assign (.Name y py) X.env))) _ _ s
 refine wpAny_bind (wpAny_mono (wpAny_comprehension_free (use:=some (assign (.Name y py) X.env)) (Q:=fun _ s'=>SP X pins D .next s') rfl hs O.clos O.kind O.names
  (thn (hi pins s σ H _ I h) fun xv s1 h1=>thn h1 fun itv s2 h2=>?_)) (fun _ s' hq=>wpAny_pure (wpAny_pure hq)) fun _ _ e=>e)
 obtain ⟨it,fp,tn,J,H2,e,I2,T,st2,f2,hq⟩:=h2
 subst e
 refine zk9 O htt hel hc I2 T st2 f2 (fun l H'=>D.nx (σ.set i (some (.ref l))) H') hq ?_
 intro l C m s' H' I' hn hf r
 obtain ⟨o,es,ep,ho,hd,hr⟩:=id hn
 have Ip:=I'.addpin ho hf.1 hf.2.1 hf.2.2.1 (by intro v z;rw[hd] at z;cases z)
 refine thn ((zC (i:=i) hN hiy (Or.inl hy) (Or.inr hy):PG X (.Name y py) (zb9 i)) _ s' σ H' (.ref l) (.ref l) (fun σ' H''=>σ'=σ.set i (some (.ref l))/\H''=H') Ip rfl ⟨rfl,rfl⟩) fun _ s'' ⟨σ'',H'',I'',e1,e2⟩=>?_
 subst e1 e2
 have pc:=(I''.pin (C,o) (yag _ (yag _ yas))).1
 refine ⟨m,⟨o,es,ep,pc,hd,hr⟩,fun h' hb=>⟨_,_,?_,r⟩⟩
 exact I''.unpinned.turned (t':=s''.toks) (fun b o hne e=>hb.extBut b o hne e) hf.1 hf.2.1 hf.2.2.2.1 hf.2.2.2.2.1 hf.2.2.2.2.2
end
structure Mk0 (K:W.Frag) (C:Addr):Prop where
 makes:PySem.W.makesIn K C=true
 init:PySem.W.findIn K (.ref C) "__init__" = some (some (.builtin "object.__init__"))
 kp:PySem.W.keepIn K (.ref C)=true
def zxA (C:Addr):TE:=fun _ H Q=>∀ x dx,H x=none->H dx=none->dx≠x->Q (.ref x) (upd (upd H dx (.own x)) x (.ins C dx []))
section
variable {X:Cx} {C:Addr} {x m:Str} {p pos apos:Pos} {e o:Expr} {es:List Expr} {ta:TE} {t:TA} {j k:Nat} {ps:List Str}
theorem zkM (M:Mk0 X.K C) (hm:X.mg x=some (.ref C)) (hg:Gl X x:=by rfl) (hdb:(x == ("__debug__" : Str))=false:=by decide):PE X (.Call (.Name x p) [] [] pos) (zxA C):=by
 intro pins s σ H Q I h
 refine wpAny_Call_Name_kw (zkR I hg hm ?_ hdb)
 refine PySem.W.callWith_K0 I.kIn M.kp ?_
 have hq:=h (s.heap.objs.size+1) s.heap.objs.size (I.hok.fresh (ydl _)) (I.hok.fresh (ycz _)) (yda (ydg _))
 have I2:=Inv.made (C:=C) I
 have Y:=PySem.W.makes_of (M:=model X.prog X.w) I.kIn M.makes
 have e2:((s.heap.push PySem.W.emptyDict).push (PySem.W.instObj C s.heap.objs.size)).get? (s.heap.objs.size+1)=some (PySem.W.instObj C s.heap.objs.size):=by
  have:=ydr (s.heap.push PySem.W.emptyDict) (o:=PySem.W.instObj C s.heap.objs.size) rfl
  rwa [ydv] at this
 refine wpAny_call (zsU I.kIn M.makes M.init (fun self=>PySem.W.Looks.of_pure (PySem.W.oi_bind self)) ?_)
 have t1:PySem.W.Looks (model X.prog X.w) ((s.heap.push PySem.W.emptyDict).push (PySem.W.instObj C s.heap.objs.size)) (typeOf (.ref (s.heap.objs.size+1))) (.ref C):=(PySem.W.Looks.ld e2).andThen .now
 have t2:PySem.W.Looks (model X.prog X.w) ((s.heap.push PySem.W.emptyDict).push (PySem.W.instObj C s.heap.objs.size)) (isInstance (.ref (s.heap.objs.size+1)) (.type "object")) true:=t1.andThen (Y.top.keeps fun b o e=>ydp _ (ydp _ e))
 refine codeAny_call_builtin PySem.W.oi_plain PySem.W.entry_oi (@PySem.W.check_slot (model X.prog X.w) _ _ _ "object.__init__" "object" "__init__" (.ref (s.heap.objs.size+1)) [] [] _ PySem.W.oi_kind PySem.W.oi_split t2 (PySem.W.oi_args (.ref (s.heap.objs.size+1))) ?_)
 rw[PySem.W.oi_run]
 exact wpAny_pure (And.intro rfl ⟨V.ref (s.heap.objs.size+1),_,I2,rfl,hq⟩)
inductive Kd where
 | plain | bank | thirty | exact
noncomputable def Kd.cls:Kd->Str
 | .plain => "Count"
 | .bank => "Bank"
 | .thirty => "Thirty"
 | .exact => "Exact"
def zb5 (K:W.Frag) (H:Hp) (a:Addr) (kd:Kd):Prop:=∃ dx,H a=some (.ins (cA K kd.cls) dx [])
theorem zb5.same {K:W.Frag} {H H':Hp} {a:Addr} {kd:Kd} (h:zb5 K H a kd) (s:Same H H'):zb5 K H' a kd:=let ⟨dx,e⟩:=h;⟨dx,s _ _ e⟩
structure zp (K:W.Frag) (C:Addr) (m qual:Str) (st:Stmt) (ps:List Str):Prop where
 ex:∃ (f:Addr) (fd:FuncData),Fun K m qual st f fd/\Meth K C m f/\∀ us:List Value,us.length=ps.length->bindArgs fd ⟨us,[]⟩=pure (ps.zip us)
structure zv (P:Program) (w:World) (K:W.Frag) (mg:Str->Option Value) (base:Heap) (k:Nat) (C:Addr) (m:Str) (ps:List Str) (sp:Sp):Prop where
 ex:∃ (f:Addr) (fd:FuncData),zcn P w K mg base CX0 k f fd ps sp/\Meth K C m f/\∀ us:List Value,us.length=ps.length->bindArgs fd ⟨us,[]⟩=pure (ps.zip us)
theorem zp.ok {P:Program} {w:World} {K:W.Frag} {mg:Str->Option Value} {base:Heap} {C:Addr} {m qual:Str} {st:Stmt} {N ps:List Str} {k:Nat} {sp:Sp} (S:zp K C m qual st ps) (sc:zj N ps (zh st)) (len:∀ vs H Q E,sp vs H Q E->vs.length=ps.length)
  (hbody:∀ (f:Addr) (cdv:Value) (A:Around) (outer:List Env) (s:Shared) (H:Hp) (vs:List V) (Q:VK) (E:XK),Room k (A.deeper (envOfC qual (zh st) s.heap.objs.size f cdv))->sp vs H Q E ->
   ∃ t,PSs (zgp CX0 P w K mg base N qual (zh st) f cdv A outer s H E).nox (zaX st) t/\t { nx:=fun _ H'=>Q .non H',rt:=Q } (start N vs) H):zv P w K mg base (k+1) C m ps sp:=by
 obtain ⟨f,fd,F,hm,hb⟩:=S.ex
 exact ⟨f,fd,F.ok sc len (fun cdv=>hbody f cdv),hm,hb⟩
theorem zp.okF {P:Program} {w:World} {K:W.Frag} {mg:Str->Option Value} {base:Heap} {C:Addr} {m qual:Str} {st:Stmt} {N ps:List Str} {k:Nat} {sp:Sp} (S:zp K C m qual st ps) (sc:zj N ps (zh st)) (len:∀ vs H Q E,sp vs H Q E->vs.length=ps.length)
  (hbody:∀ (f:Addr) (cdv:Value) (A:Around) (outer:List Env) (s:Shared) (H:Hp) (vs:List V) (Q:VK) (E:XK),Room k (A.deeper (envOfC qual (zh st) s.heap.objs.size f cdv))->sp vs H Q E ->
   ∃ t,PSs (zgp CX0 P w K mg base N qual (zh st) f cdv A outer s H E).nox (zaX st) t/\t { nx:=fun _ H'=>Same H H'/\Q .non H,rt:=fun v H'=>Same H H'/\Q v H } (start N vs) H):zv P w K mg base (k+1) C m ps sp:=by
 obtain ⟨f,fd,F,hm,hb⟩:=S.ex
 have G:zcn P w K mg base CX0 (k+1) f fd ps (fun vs H R E=>∃ Q,sp vs H Q E/\R=fun v H'=>Same H H'/\Q v H) :=
  F.ok sc (fun vs H R E ⟨Q,h,_⟩=>len vs H Q E h) fun cdv A outer s H vs R E hr ⟨Q,h,e⟩=>by
   subst e
   exact hbody f cdv A outer s H vs Q E hr h
 exact ⟨f,fd,G.forget fun vs H Q E h=>⟨Q,h,rfl⟩,hm,hb⟩
def ztH (K:W.Frag) (sp:Kd->Sp) (ta:TE) (t:TA):TE:=fun σ H Q=>ta σ H fun x H1=>∃ (kd:Kd) (a:Addr),x=.ref a/\zb5 K H1 a kd/\t σ H1 fun vs H2=>sp kd (x::vs) H2 Q E0
theorem zlJ {pl:Sem Bool} {sp:Kd->Sp} (D:∀ kd:Kd,zv X.prog X.w X.K X.mg X.base j (cA X.K kd.cls) m ps (sp kd)) (hc:∀ kd:Kd,Cls X.K (cA X.K kd.cls)) (hr:Room k X.A) (he:PE X o ta) (ha:PA X (e::es) t) (hj:j<=k:=by decide)
  (hst:starEach (e::es) X.env=(false,eval e X.env)::starEach es X.env:=by rfl) (hpl:(backTo pos (starEach es X.env)).any (·.1)=false:=by rfl)
  (ht:eval (.Call (.Attribute o m apos) (e::es) [] pos) X.env=(do
   let ov <-eval o X.env
   standAt apos.atName
   let (f,first) <-holding [ov] (getMethod ov m pl)
   callWith pos f first (backTo pos (starEach (e::es) X.env)) (backToKw pos (keywordEach [] X.env))):=by rfl) :
  PE X (.Call (.Attribute o m apos) (e::es) [] pos) (ztH X.K sp ta t):=by
 intro pins s σ H Q I h
 refine PySem.W.methodCall_KW (pl:=pl) (thn (he pins s σ H _ I h) fun u s1 ⟨x,H1,I1,rx,kd,a,ex,⟨dx,ea⟩,q⟩=>?_) ht
 subst ex
 obtain rfl:u=Value.ref a:=rx
 obtain ⟨f,fd,F,hm,hb⟩:=(D kd).ex
 refine zdC I1 ea (hc kd) hm rfl ?_
 refine PySem.W.callWith_K (first:=[.ref a]) (h₀:=X.base) I.ok.mod.kin hm.kp (thn (ha pos pins s1 σ H1 _ I1 q) fun us s2 ⟨vs,H2,I2,r,q2⟩=>⟨I2.kIn,?_⟩) hst hpl
 exact zgA (us:=.ref a::us) (vs:=.ref a::vs) (dvs:=[]) (ds:=[]) F (hr.mono hj) (.all hb) .nil zhl I2 (.cons rfl r) (by rw[yci];exact q2)
theorem zj5 {pl:Sem Bool} {sp:Kd->Sp} (D:∀ kd:Kd,zv X.prog X.w X.K X.mg X.base j (cA X.K kd.cls) m ps (sp kd)) (hc:∀ kd:Kd,Cls X.K (cA X.K kd.cls)) (hr:Room k X.A) (he:PE X o ta) (hj:j<=k:=by decide)
  (ht:eval (.Call (.Attribute o m apos) [] [] pos) X.env=(do
   let ov <-eval o X.env
   standAt apos.atName
   let (f,first) <-holding [ov] (getMethod ov m pl)
   callWith pos f first (backTo pos (starEach [] X.env)) (backToKw pos (keywordEach [] X.env))):=by rfl) :
  PE X (.Call (.Attribute o m apos) [] [] pos) (ztH X.K sp ta zne):=by
 intro pins s σ H Q I h
 refine PySem.W.methodCall_KW (pl:=pl) (thn (he pins s σ H _ I h) fun u s1 ⟨x,H1,I1,rx,kd,a,ex,⟨dx,ea⟩,q⟩=>?_) ht
 subst ex
 obtain rfl:u=Value.ref a:=rx
 obtain ⟨f,fd,F,hm,hb⟩:=(D kd).ex
 refine zdC I1 ea (hc kd) hm rfl ?_
 exact PySem.W.callWith_K0 (first:=[.ref a]) I1.kIn hm.kp (zgA (us:=[.ref a]) (vs:=[.ref a]) (dvs:=[]) (ds:=[]) F (hr.mono hj) (.all hb) .nil zhl I1 (.cons rfl .nil) q)
end
section
variable {K:W.Frag} {x:Str} {C f:Addr}
theorem zbr (a:PySem.W.nsIn K mainGlobals x=some (some (.ref C))) (h1:PySem.W.plainGet K C Str.empty=true) (h2:PySem.W.hasDictIn K C=true) (h3:PySem.W.plainOver K C=true) (h4:PySem.W.findIn K (.ref C) "__setattr__" = some (some (.builtin "object.__setattr__"))):Cls K (cA K x):=by
 rw[zdS a];exact ⟨h1,h2,h3,h4⟩
theorem zmp (a:PySem.W.nsIn K mainGlobals x=some (some (.ref C))) (h1:PySem.W.makesIn K C=true) (h2:PySem.W.findIn K (.ref C) "__init__" = some (some (.builtin "object.__init__"))) (h3:PySem.W.keepIn K (.ref C)=true):Mk0 K (cA K x):=by
 rw[zdS a];exact ⟨h1,h2,h3⟩
theorem zw {m qual:Str} {st:Stmt} {ps:List Str} {oc:Value} {od an:Option Addr} {osl:Array (Option Value)} {kV doc pm cdv ct:Value} (a:PySem.W.nsIn K mainGlobals x=some (some (.ref C))) (hi:PySem.W.findIn K (.ref C) m=some (some (.ref f))) (hf:PySem.W.isFn K (.ref f)=true)
  (fk:PySem.W.keepIn K (.ref f)=true) (fl:K.lookup f=some ⟨oc,od,.func (PySem.W.fnOf m qual (zcI st) (zaX st) (zh st) .none kV doc pm an cdv ct),osl⟩) (fc:PySem.W.codeIn K cdv qual=true)
  (hb:∀ us:List Value,us.length=ps.length->bindArgs (PySem.W.fnOf m qual (zcI st) (zaX st) (zh st) .none kV doc pm an cdv ct) ⟨us,[]⟩=pure (ps.zip us)):zp K (cA K x) m qual st ps:=by
 rw[zdS a];exact ⟨f,_,zp0 fl fc fk,⟨hi,hf,fk⟩,hb⟩
end
end L2
namespace L2
open PySem
end L2
namespace L2
theorem zvA {α:Type} {xs:List α} {v:α} (h:xs[xs.length-1]?=some v) (h0:0<xs.length):atI xs (-1)=some v:=by
 have e:ixN xs.length (-1)=some (xs.length-1):=by
  unfold ixN
  rw[if_neg (by decide),if_pos (by ac_rfl),show ((-1:Int)+(xs.length:Int)).toNat=xs.length-1 by ac_rfl]
 unfold atI
 rw[e]
 exact h
end L2
namespace L2
open PySem PySem.Spec PyProof.Rows
noncomputable def Cx.zbZ (X:Cx) (sc:Scope) (x y0:Str) (ix:List Nat) (b:Blk):Cx where
 prog:=X.prog
 w:=X.w
 K:=X.K
 mg:=X.mg
 base:=X.base
 A:=X.A
 N:=x::y0::ix.map fun i=>X.N.getD i x
 s₀:=b.s
 H₀:=b.H
 env:=compEnvC sc (zaH sc X.env) b.C X.env
 outer:=X.stack
 stack:=X.stack
 ex:=b.ex
 fn:=fun _=>false
 calm:=X.calm
 pn:=b.pn
 xe:=fun _ _=>False
structure zkP (X:Cx) (sc:Scope) (x y0:Str) (ix:List Nat):Prop where
 clos:closureFor sc X.env=pure (zaH sc X.env)
 cell:∀ y∈sc.names,y.2≠.cell
 kind:sc.kind=.function
 names:∀ y∈sc.names,y.2=.local->sc.names.lookup y.1=some .local
 var:sc.names.lookup x=some .local
 var2:sc.names.lookup y0=some .local
 nd:(x::y0::ix.map fun i=>X.N.getD i x).Nodup
 cap:zgz X sc x ix
 sub:zje X.env.cells (zaH sc X.env)
 has:zi4 (zaH sc X.env) (relabel sc X.env).names
section
variable {X:Cx} {pins:List (Addr × Obj)} {σ:St} {H:Hp} {s:Shared} {sc:Scope} {x y0:Str} {ix:List Nat} {fp:List Addr}
theorem ztf (I:Inv X pins σ H s) (O:zkP X sc x y0 ix) (hf:∀ b∈fp,zaL X pins H b) (hx:∀ b∈fp,∃ o,s.heap.get? b=some o):(X.zbZ sc x y0 ix ⟨s.heap.objs.size,s,H,X.pn++pins,fp⟩).Ok where
 mod:=I.ok.mod
 kind:=O.kind
 glob:=I.ok.glob
 blt:=I.ok.blt
 above:=ycz _
 inj:=fun y z c h1 h2=>I.ok.inj y z c (O.sub.get y c h1) (O.sub.get z c h2)
 has:=fun y h=>by
  have h':(relabel sc X.env).names.lookup y=some .cell\/(relabel sc X.env).names.lookup y=some .free:=h
  rcases h' with h' | h'
  ·exact O.has.get _ (PySem.mem_of_lookup h') (.inl rfl)
  ·exact O.has.get _ (PySem.mem_of_lookup h') (.inr rfl)
 cab:=fun _ _ h=>absurd (show false=true from h) Bool.false_ne_true
 hd:=I.ok.hd
 frames:=I.ok.frames
 stk:=.inl rfl
 exf:=fun b hb=>by
  obtain ⟨o,e⟩:=hx b hb
  exact ⟨yda (ydq e),fun y c h=>(hf b hb).2.2.2.2.1 y c (O.sub.get y c h)⟩
 bs:=I.bs
 bsz:=yde I.ok.bsz I.sz
 noex:=fun b o e hb=>by
  rcases (hf b hb).2.2.2.1 with z | z
  ·exact I.ok.noex b o e z
  ·exact absurd (ydd (ydq e) (yde I.ok.bsz z)) (ydf _)
 exfs:=fun b hb z=>(yak.mp (I.zcf b z)).elim (hf b hb).2.1 (hf b hb).2.2.1
 funs:=I.stack
 frf:=I.zkL
theorem zr2 {h₁:Heap} {m:Str->Option Value} {tk:Nat} (I:Inv X pins σ H s) (O:zkP X sc x y0 ix) (hf:∀ b∈fp,zaL X pins H b) (hx:∀ b∈fp,∃ o,s.heap.get? b=some o)
  (hn:h₁.Ns s.heap.objs.size m) (keep:∀ b o,s.heap.get? b=some o->h₁.get? b=some o) :
  Inv (X.zbZ sc x y0 ix ⟨s.heap.objs.size,s,H,X.pn++pins,fp⟩) [] (none::none::capts σ ix) H { s with heap:=h₁,toks:=tk }:=by
 refine ⟨ztf I O hf hx,rfl,I.bare,Un.kept keep,⟨m,hn,fun i y v e1 e2 _=>?_⟩,fun y c h=>?_,I.hok.fresh (ycz _),fun y c h=>I.freeC y c (O.sub.get y c h),fun p hp=>?_,I.hok.kept keep,?_⟩
 ·cases i with
  | zero=>cases e2
  | succ j' =>
   cases j' with
   | zero=>cases e2
   | succ j =>
   have e1':(ix.map fun i=>X.N.getD i x)[j]?=some y:=e1
   have e2':(capts σ ix)[j]?=some (some v):=e2
   unfold capts at e2'
   rw[yaj] at e1' e2'
   cases q:ix[j]? with
   | none=>rw[q] at e1';cases e1'
   | some i =>
    rw[q] at e1' e2'
    have e3:X.N.getD i x=y:=Option.some.inj e1'
    have e4:σ.getD i none=some v:=Option.some.inj e2'
    obtain ⟨c1,c2,c3⟩:=O.cap.get i (yae q)
    rw[e3] at c1 c2 c3
    have e5:σ[i]?=some (some v):=by
     rw[yad] at e4
     cases z:σ[i]? with
     | none=>rw[z] at e4;cases e4
     | some a=>rw[z] at e4;exact congrArg some e4
    have hl:i<X.N.length:=by
     rw[<-I.len]
     exact (yac.mp e5).1
    have e6:X.N[i]?=some y:=by
     rw[yad,yaa hl] at e3
     rw[yaa hl]
     exact congrArg some e3
    obtain ⟨m0,_,l0⟩:=I.loc
    have vis:Vis X.env.scope y:=by
     rcases c1 with z | z
     ·exact .inr (.inl z)
     ·exact .inr (.inr z)
    obtain ⟨u,ru,lu⟩:=l0 i y v e6 e5 vis
    refine ⟨u,ru,?_⟩
    rcases lu with ⟨k,_⟩ | ⟨_,c,hc,o,ho,hd⟩
    ·rcases c1 with z | z
     ·rw[z] at k;cases k
     ·rw[z] at k;cases k
    ·exact .inr ⟨c2,c,c3.trans hc,o,keep c o ho,hd⟩
 ·obtain ⟨v,o,ho,hd⟩:=I.cell y c (O.sub.get y c h)
  exact ⟨v,o,keep c o ho,hd⟩
 ·have hp':p∈X.pn++pins:=by
   rcases yaf.mp hp with z | z
   ·exact z
   ·cases z
  obtain ⟨e,n,ne,nf,d⟩:=I.pin p hp'
  exact ⟨keep _ _ e,n,yda (ydq e),fun z=>(yak.mp (I.zcf _ z)).elim ne nf,d⟩
 ·show (none::none::capts σ ix).length=(x::y0::ix.map fun i=>X.N.getD i x).length
  simp[capts]
theorem zqt {pins':List (Addr × Obj)} {σ':St} {H':Hp} {s':Shared} (I:Inv X pins σ H s) (hf:∀ b∈fp,zaL X pins H b) (J:Inv (X.zbZ sc x y0 ix ⟨s.heap.objs.size,s,H,X.pn++pins,fp⟩) pins' σ' H' s'):Inv X pins σ H' s' :=
 I.call' J.os J.base J.hok J.bare fun b hb=>⟨(hf b hb).2.2.2.1,(hf b hb).2.1,(hf b hb).2.2.2.2.1,(hf b hb).2.2.2.2.2⟩
end
section
variable {X:Cx} {pins:List (Addr × Obj)} {σ:St} {H:Hp} {s:Shared} {sc:Scope} {x y0:Str} {ix:List Nat} {fp:List Addr} {elt iter:Expr} {te:TE} {wi:TI} {px py0 pt0 pos:Pos} {kt0:Nat}
end
end L2
namespace SortT
open PySem PySem.W PyProof.Rows
noncomputable def okT {α:Type} (n:Nat) (lt:Nat->Nat->Bool):KasT α->(α->Prop)->Prop
 | .ret a,Q=>Q a
 | .ask i j k,Q=>(i<n/\j<n)/\okT n lt (k (lt i j)) Q
theorem zpG {α:Type} {n:Nat} {lt:Nat->Nat->Bool} {Q Q':α->Prop} (h:∀ a,Q a->Q' a):∀ (t:KasT α),okT n lt t Q->okT n lt t Q'
 | .ret a,q=>h a q
 | .ask i j k,q=>⟨q.1,zpG h _ q.2⟩
theorem zeF {α β:Type} {n:Nat} {lt:Nat->Nat->Bool} {f:α->KasT β} {Q:β->Prop}:∀ (t:KasT α),okT n lt t (fun a=>okT n lt (f a) Q)->okT n lt (t.bind f) Q
 | .ret a,q=>q
 | .ask i j k,q=>⟨q.1,zeF _ q.2⟩
theorem ztR {α:Type} {n:Nat} {lt:Nat->Nat->Bool} {s:Shared} {cmp:Nat->Nat->(Bool->Shared->Prop)->Shared->Prop} (hc:∀ i j C,i<n->j<n->C (lt i j) s->cmp i j C s) {Q:α->Prop} {R:α->Shared->Prop} (hR:∀ a,Q a->R a s):∀ (t:KasT α),okT n lt t Q->t.kasWp cmp R s
 | .ret a,q=>hR a q
 | .ask i j k,q=>hc i j _ q.1.1 q.1.2 (ztR hc hR _ q.2)
structure Ord (lt:Nat->Nat->Bool):Prop where
 irr:∀ i,lt i i=false
 asy:∀ i j,lt i j=true->lt j i=false
 neg:∀ i j k,lt i j=false->lt j k=false->lt i k=false
variable {N:Nat} {lt:Nat->Nat->Bool}
def In (N:Nat) (p:Array Nat):Prop:=p.size=N/\∀ i,i<N->p.getD i 0<N
def Up (lt:Nat->Nat->Bool) (p:Array Nat) (k:Nat):Prop:=∀ i j,i<=j->j<k->lt (p.getD j 0) (p.getD i 0)=false
def Dn (lt:Nat->Nat->Bool) (p:Array Nat) (k:Nat):Prop:=∀ i j,i<=j->j<k->lt (p.getD i 0) (p.getD j 0)=false
theorem ziD {p q:Array Nat} {i j:Nat} (h:p[i]?=q[j]?):p.getD i 0=q.getD j 0:=by
 rw[yee,yee,h]
theorem zct {p:Array Nat} {i j k:Nat} (hj:j<=p.size):(kas_rev p i j).getD k 0=if i<=k/\k<j then p.getD (i+j-1-k) 0 else p.getD k 0:=by
 have e:=getElem?_mirror_all (xs:=p) (i:=i) hj k
 unfold kas_rev
 by_cases c:i<=k/\k<j
 ·rw[if_pos c] at e ⊢;exact ziD e
 ·rw[if_neg c] at e ⊢;exact ziD e
theorem zj4 {p:Array Nat} {i j:Nat} (h:In N p) (hj:j<=N):In N (kas_rev p i j):=by
 refine ⟨by rw[kas_rev_size];exact h.1,fun k hk=>?_⟩
 rw[zct (by rw[h.1];exact hj)]
 split
 ·exact h.2 _ (by ac_rfl)
 ·exact h.2 k hk
theorem Up.one {p:Array Nat} (O:Ord lt):Up lt p 1:=fun i j h1 h2=>by
 have:i=j:=by ac_rfl
 subst this
 exact O.irr _
theorem Up.next {p:Array Nat} {n:Nat} (O:Ord lt) (h:Up lt p n) (h1:1<=n) (c:lt (p.getD n 0) (p.getD (n-1) 0)=false):Up lt p (n+1):=fun i j h2 h3=>by
 by_cases e:j=n
 ·subst e
  by_cases e2:i=j
  ·subst e2;exact O.irr _
  ·exact O.neg _ _ _ c (h i (j-1) (by ac_rfl) (by ac_rfl))
 ·exact h i j h2 (by ac_rfl)
theorem zoy (O:Ord lt) {p:Array Nat} (hp:In N p) {Q:Nat->Prop}:∀ (f n:Nat),1<=n->n+f<=N->Up lt p n->(∀ m,n<=m->m<=n+f->Up lt p m->(m=n+f\/lt (p.getD m 0) (p.getD (m-1) 0)=true)->Q m)->okT N lt (kas_asc p f n) Q
 | 0,n,h1,h2,up,hQ=>hQ n (ycz _) (ycz _) up (.inl rfl)
 | f+1,n,h1,h2,up,hQ=>by
  refine ⟨⟨hp.2 n (by ac_rfl),hp.2 (n-1) (by ac_rfl)⟩,?_⟩
  cases c:lt (p.getD n 0) (p.getD (n-1) 0) with
  | true=>exact hQ n (ycz _) (by ac_rfl) up (.inr c)
  | false=>exact zoy O hp f (n+1) (by ac_rfl) (by ac_rfl) (up.next O h1 c) fun m a b u z=>hQ m (by ac_rfl) (by ac_rfl) u (by rcases z with z | z;exact .inl (by ac_rfl);exact .inr z)
theorem zi2 (p:Array Nat) (i j:Nat):(kas_rev p i j).Perm p:=mirror_perm _ _ _ _
structure Des (lt:Nat->Nat->Bool) (p:Array Nat) (n q:Nat):Prop where
 hq:q+1<=n
 dn:Dn lt p n
 al:∀ i,n<=i+(q+1)->i<n->lt (p.getD i 0) (p.getD (n-1) 0)=false/\lt (p.getD (n-1) 0) (p.getD i 0)=false
theorem Des.alike {p:Array Nat} {n q:Nat} (O:Ord lt) (D:Des lt p n q) {i j:Nat} (h1:n<=i+(q+1)) (h2:i<n) (h3:n<=j+(q+1)) (h4:j<n):lt (p.getD i 0) (p.getD j 0)=false:=O.neg _ _ _ (D.al i h1 h2).1 (D.al j h3 h4).2
theorem Des.turn {p:Array Nat} {n q:Nat} (O:Ord lt) (D:Des lt p n q) (hn:n<=p.size):Dn lt (kas_rev p (n-(q+1)) n) n:=fun i j h1 h2=>by
 have:=D.hq
 rw[zct hn,zct hn]
 by_cases ci:n-(q+1)<=i/\i<n
 ·rw[if_pos ci,if_pos (show n-(q+1)<=j/\j<n by ac_rfl)]
  exact D.alike O (by ac_rfl) (by ac_rfl) (by ac_rfl) (by ac_rfl)
 ·rw[if_neg ci]
  by_cases cj:n-(q+1)<=j/\j<n
  ·rw[if_pos cj]
   exact D.dn _ _ (by ac_rfl) (by ac_rfl)
  ·rw[if_neg cj]
   exact D.dn i j h1 h2
theorem Des.fall {p:Array Nat} {n:Nat} (O:Ord lt) (dn:Dn lt p n) (h1:1<=n) (c:lt (p.getD (n-1) 0) (p.getD n 0)=false):Dn lt p (n+1):=fun i j h2 h3=>by
 by_cases e:j=n
 ·subst e
  by_cases e2:i=j
  ·subst e2;exact O.irr _
  ·exact O.neg _ _ _ (dn i (j-1) (by ac_rfl) (by ac_rfl)) c
 ·exact dn i j h2 (by ac_rfl)
theorem zkU (O:Ord lt) {Q:Array Nat × Nat × Nat->Prop}:∀ (f:Nat) (p:Array Nat) (n q:Nat),In N p->n+f<=N->Des lt p n q->(∀ p' n' q',In N p'->p'.Perm p->n<=n'->n'<=n+f->Des lt p' n' q'->Q (p',n',q'))->okT N lt (kas_desc f p n q) Q
 | 0,p,n,q,hp,hn,D,hQ=>hQ p n q hp (Array.Perm.refl _) (ycz _) (ycz _) D
 | f+1,p,n,q,hp,hn,D,hQ=>by
  have hq:=D.hq
  refine ⟨⟨hp.2 n (by ac_rfl),hp.2 (n-1) (by ac_rfl)⟩,?_⟩
  cases c:lt (p.getD n 0) (p.getD (n-1) 0) with
  | true =>
   have c':=O.asy _ _ c
   show okT N lt (if q > 0 then _ else _) Q
   by_cases q0:q > 0
   ·rw[if_pos q0]
    have hs:n<=p.size:=by rw[hp.1];ac_rfl
    have dn:Dn lt (kas_rev p (n-(q+1)) n) (n+1):=by
     refine Des.fall O (D.turn O hs) (by ac_rfl) ?_
     rw[zct hs,zct hs,if_pos (by ac_rfl),if_neg (by ac_rfl)]
     exact O.neg _ _ _ (D.alike O (by ac_rfl) (by ac_rfl) (by ac_rfl) (by ac_rfl)) c'
    refine zkU O f _ (n+1) 0 (zj4 hp (by ac_rfl)) (by ac_rfl) ⟨by ac_rfl,dn,fun i a b=>?_⟩ fun p' n' q' a b c d e=>hQ p' n' q' a (b.trans (zi2 _ _ _)) (by ac_rfl) (by ac_rfl) e
    have:i=n:=by ac_rfl
    subst this
    exact ⟨O.irr _,O.irr _⟩
   ·rw[if_neg q0]
    refine zkU O f _ (n+1) 0 hp (by ac_rfl) ⟨by ac_rfl,Des.fall O D.dn (by ac_rfl) c',fun i a b=>?_⟩ fun p' n' q' a b c d e=>hQ p' n' q' a b (by ac_rfl) (by ac_rfl) e
    have:i=n:=by ac_rfl
    subst this
    exact ⟨O.irr _,O.irr _⟩
  | false =>
   refine ⟨⟨hp.2 (n-1) (by ac_rfl),hp.2 n (by ac_rfl)⟩,?_⟩
   cases d:lt (p.getD (n-1) 0) (p.getD n 0) with
   | true=>exact hQ p n q hp (Array.Perm.refl _) (ycz _) (by ac_rfl) D
   | false =>
    refine zkU O f _ (n+1) (q+1) hp (by ac_rfl) ⟨by ac_rfl,Des.fall O D.dn (by ac_rfl) d,fun i a b=>?_⟩ fun p' n' q' a b c d e=>hQ p' n' q' a b (by ac_rfl) (by ac_rfl) e
    show lt (p.getD i 0) (p.getD n 0)=false/\lt (p.getD n 0) (p.getD i 0)=false
    by_cases e:i=n
    ·subst e
     exact ⟨O.irr _,O.irr _⟩
    ·have al:=D.al i (by ac_rfl) (by ac_rfl)
     exact ⟨O.neg _ _ _ al.1 d,O.neg _ _ _ c al.2⟩
theorem Dn.up {p:Array Nat} {n:Nat} (dn:Dn lt p n) (hn:n<=p.size):Up lt (kas_rev p 0 n) n:=fun i j h1 h2=>by
 rw[zct hn,zct hn,if_pos (by ac_rfl),if_pos (by ac_rfl)]
 exact dn _ _ (by ac_rfl) (by ac_rfl)
abbrev Good (N:Nat) (lt:Nat->Nat->Bool) (p0:Array Nat) (r:Nat × Array Nat):Prop:=In N r.2/\r.2.Perm p0/\1<=r.1/\r.1<=N/\Up lt r.2 r.1
theorem zpH (O:Ord lt) {p p0:Array Nat} {n:Nat} (hp:In N p) (pe:p.Perm p0) (h1:1<=n) (hn:n<=N) (dn:Dn lt p n):okT N lt (kas_tail3 n N p) (Good N lt p0):=by
 have hs:n<=p.size:=by rw[hp.1];ac_rfl
 refine zeF _ (zoy O (zj4 hp hn) (N-n) n h1 (by ac_rfl) (dn.up hs) fun m a b u _=>?_)
 exact ⟨zj4 hp hn,(zi2 _ _ _).trans pe,by show 1<=m;ac_rfl,by show m<=N;ac_rfl,u⟩
theorem zk5 (O:Ord lt) {p p0:Array Nat} {n:Nat} (hp:In N p) (pe:p.Perm p0) (h1:1<=n) (hn:n+1<=N) (dn:Dn lt p (n+1)):okT N lt (kas_descPart n N p) (Good N lt p0):=by
 refine zeF _ (zkU O (N-(n+1)) p (n+1) 0 hp (by ac_rfl) ⟨by ac_rfl,dn,fun i a b=>?_⟩ fun p' n' q' a b c d D=>?_)
 ·have:i=n:=by ac_rfl
  subst this
  exact ⟨O.irr _,O.irr _⟩
 ·show okT N lt (if q' > 0 then kas_tail3 n' N (kas_rev p' (n'-(q'+1)) n') else kas_tail3 n' N p') _
  have hs:n'<=p'.size:=by rw[a.1];ac_rfl
  by_cases q0:q' > 0
  ·rw[if_pos q0]
   exact zpH O (zj4 a (by ac_rfl)) ((zi2 _ _ _).trans (b.trans pe)) (by ac_rfl) (by ac_rfl) (D.turn O hs)
  ·rw[if_neg q0]
   exact zpH O a (b.trans pe) (by ac_rfl) (by ac_rfl) D.dn
theorem zue (O:Ord lt) {p:Array Nat} (hp:In N p) (h1:1<=N):okT N lt (kas_count N p) (Good N lt p):=by
 refine zeF _ (zoy O hp (N-1) 1 (ycz _) (by ac_rfl) (Up.one O) fun n a b u z=>?_)
 show okT N lt (if (n == N)=true then _ else _) _
 by_cases e:n=N
 ·rw[if_pos (by rw[e];exact beq_self_eq_true N)]
  exact ⟨hp,Array.Perm.refl _,by show 1<=n;ac_rfl,by show n<=N;ac_rfl,u⟩
 ·rw[if_neg (by rw[beq_iff_eq];exact e)]
  have c:lt (p.getD n 0) (p.getD (n-1) 0)=true:=by rcases z with z | z;ac_rfl;exact z
  have c':=O.asy _ _ c
  by_cases g:n > 1
  ·rw[if_pos g]
   refine ⟨⟨hp.2 0 (by ac_rfl),hp.2 (n-1) (by ac_rfl)⟩,?_⟩
   cases d:lt (p.getD 0 0) (p.getD (n-1) 0) with
   | true=>exact ⟨hp,Array.Perm.refl _,by show 1<=n;ac_rfl,by show n<=N;ac_rfl,u⟩
   | false =>
    have hs:n<=p.size:=by rw[hp.1];ac_rfl
    have al:∀ i j,i<n->j<n->lt (p.getD i 0) (p.getD j 0)=false:=fun i j hi hj=>O.neg _ _ _ (u 0 i (ydb _) hi) (O.neg _ _ _ d (u j (n-1) (by ac_rfl) (by ac_rfl)))
    refine zk5 O (zj4 hp (by ac_rfl)) (zi2 _ _ _) (by ac_rfl) (by ac_rfl) (Des.fall O (fun i j h2 h3=>?_) (by ac_rfl) ?_)
    ·rw[zct hs,zct hs,if_pos (by ac_rfl),if_pos (by ac_rfl)]
     exact al _ _ (by ac_rfl) (by ac_rfl)
    ·rw[zct hs,zct hs,if_pos (by ac_rfl),if_neg (by ac_rfl)]
     exact O.neg _ _ _ (al _ (n-1) (by ac_rfl) (by ac_rfl)) c'
  ·rw[if_neg g]
   have e1:n=1:=by ac_rfl
   subst e1
   refine zk5 O hp (Array.Perm.refl _) (ycz _) (by ac_rfl) (Des.fall O (fun i j h2 h3=>?_) (ycz _) c')
   have:i=j:=by ac_rfl
   subst this
   exact O.irr _
theorem zlH (O:Ord lt) {p:Array Nat} (hp:In N p) {k:Nat} (hk:k<N) (u:Up lt p k) {Q:Nat->Prop}:∀ (f l r:Nat),l<=r->r<=k->r-l<=f->(∀ i,i<l->lt (p.getD k 0) (p.getD i 0)=false)->(∀ i,r<=i->i<k->lt (p.getD k 0) (p.getD i 0)=true) ->
  (∀ m,m<=k->(∀ i,i<m->lt (p.getD k 0) (p.getD i 0)=false)->(∀ i,m<=i->i<k->lt (p.getD k 0) (p.getD i 0)=true)->Q m)->okT N lt (kas_place p k f l r) Q
 | 0,l,r,h1,h2,h3,lo,hi,hQ=>hQ l (by ac_rfl) lo fun i a b=>hi i (by ac_rfl) b
 | f+1,l,r,h1,h2,h3,lo,hi,hQ=>by
  show okT N lt (if l>=r then _ else _) Q
  by_cases g:l>=r
  ·rw[if_pos g]
   exact hQ l (by ac_rfl) lo fun i a b=>hi i (by ac_rfl) b
  ·rw[if_neg g]
   refine ⟨⟨hp.2 k hk,hp.2 _ (by ac_rfl)⟩,?_⟩
   cases c:lt (p.getD k 0) (p.getD ((l+r) / 2) 0) with
   | true =>
    refine zlH O hp hk u f l ((l+r) / 2) (by ac_rfl) (by ac_rfl) (by ac_rfl) lo (fun i a b=>?_) hQ
    cases d:lt (p.getD k 0) (p.getD i 0) with
    | true=>rfl
    | false =>
     have:=O.neg _ _ _ d (u _ i a b)
     rw[c] at this
     cases this
   | false=>exact zlH O hp hk u f ((l+r) / 2+1) r (by ac_rfl) h2 (by ac_rfl) (fun i a=>O.neg _ _ _ c (u i _ (by ac_rfl) (by ac_rfl))) hi hQ
theorem zpB {p:Array Nat} {k l i:Nat} (hk:k<p.size) (hl:l<=k):(bubble p k (k-l)).getD i 0=if i=l then p.getD k 0 else if l<i/\i<=k then p.getD (i-1) 0 else p.getD i 0:=by
 have e:=getElem?_bubble hk (k-l) (by ac_rfl) i
 rw[show k-(k-l)=l by ac_rfl] at e
 by_cases c:i=l
 ·rw[if_pos c] at e ⊢;exact ziD e
 ·rw[if_neg c] at e ⊢
  by_cases c2:l<i/\i<=k
  ·rw[if_pos c2] at e ⊢;exact ziD e
  ·rw[if_neg c2] at e ⊢;exact ziD e
theorem ztV (O:Ord lt) {p0:Array Nat}:∀ (f:Nat) (p:Array Nat) (k:Nat),In N p->p.Perm p0->k+f=N->Up lt p k->okT N lt (kas_bin f p k) fun q=>In N q/\q.Perm p0/\Up lt q N
 | 0,p,k,hp,pe,e,u=>⟨hp,pe,by rw[<-e];exact u⟩
 | f+1,p,k,hp,pe,e,u=>by
  have hk:k<p.size:=by rw[hp.1];ac_rfl
  refine zeF _ (zlH O hp (by ac_rfl) u k 0 k (ydb _) (ycz _) (by ac_rfl) (fun i h=>absurd h (Nat.not_lt_zero _)) (fun i a b=>by ac_rfl) fun l hl lo hi=>?_)
  refine ztV O f _ (k+1) ⟨by rw[bubble_size];exact hp.1,fun i h=>?_⟩ ((bubble_perm _ _ _).trans pe) (by ac_rfl) fun i j h1 h2=>?_
  ·rw[zpB hk hl]
   by_cases c1:i=l
   ·rw[if_pos c1];exact hp.2 k (by ac_rfl)
   ·rw[if_neg c1]
    by_cases c2:l<i/\i<=k
    ·rw[if_pos c2];exact hp.2 _ (by ac_rfl)
    ·rw[if_neg c2];exact hp.2 i h
  ·rw[zpB hk hl,zpB hk hl]
   by_cases ei:i=l
   ·rw[if_pos ei]
    by_cases ej:j=l
    ·rw[if_pos ej];exact O.irr _
    ·rw[if_neg ej,if_pos (by ac_rfl)]
     exact O.asy _ _ (hi (j-1) (by ac_rfl) (by ac_rfl))
   ·rw[if_neg ei]
    by_cases ej:j=l
    ·rw[if_pos ej,if_neg (by ac_rfl)]
     exact lo i (by ac_rfl)
    ·rw[if_neg ej]
     by_cases ci:l<i/\i<=k
     ·rw[if_pos ci,if_pos (by ac_rfl)]
      exact u _ _ (by ac_rfl) (by ac_rfl)
     ·rw[if_neg ci]
      by_cases cj:l<j/\j<=k
      ·rw[if_pos cj]
       exact u _ _ (by ac_rfl) (by ac_rfl)
      ·rw[if_neg cj]
       exact u _ _ h1 (by ac_rfl)
theorem zwm (O:Ord lt) (h1:1<=N):okT N lt (kas_sort N) fun q=>In N q/\q.Perm (ybl (ybg N))/\Up lt q N:=by
 have hp:In N (ybl (ybg N)):=⟨by simp,fun i h=>by
  rw[yee]
  simp[h]⟩
 refine zeF _ (zpG (fun r g=>?_) _ (zue O hp h1))
 obtain ⟨a,b,c,d,e⟩:=g
 show okT N lt (if r.1<N then _ else _) _
 by_cases h:r.1<N
 ·rw[if_pos h]
  exact ztV O _ _ _ a b (by ac_rfl) (by rw[Nat.max_eq_left c];exact e)
 ·rw[if_neg h]
  have:r.1=N:=by ac_rfl
  exact ⟨a,b,by rw[<-this];exact e⟩
end SortT
namespace SortT
open PySem PySem.W PyProof.Rows PySem.Calls
def zao (h:Heap) (v:Value) (x:Int × Int):Prop:=∃ a o n t u,v=.ref a/\h.get? a=some o/\o.cls=.type "tuple" /\ o.data=.seq #[.int x.1 t,.int x.2 u] n
theorem zao.keep {h h':Heap} {v:Value} {x:Int × Int} (p:zao h v x) (k:∀ a o,v=.ref a->h.get? a=some o->h'.get? a=some o):zao h' v x:=by
 obtain ⟨a,o,n,t,u,rfl,e,r⟩:=p
 exact ⟨a,o,n,t,u,rfl,k a o rfl e,r⟩
def lex (x y:Int × Int):Bool:=decide (x.1<y.1\/(x.1=y.1/\x.2<y.2))
section
variable {prog:Program} {w:World} {A:Around} {E:Value->Shared->Prop} {s:Shared}
theorem zvW {v v':Value} {x y:Int × Int} (hv:zao s.heap v x) (hw:zao s.heap v' y) {Q:Bool->Shared->Prop} (h:Q (lex x y) s):wpAny (model prog w) A (keyLt' (tuples' true) v v') Q E s:=by
 obtain ⟨a,o,n,t,u,rfl,e,c,d⟩:=hv
 obtain ⟨a',o',n',t',u',rfl,e',c',d'⟩:=hw
 refine kat_lt e d e' d' ?_
 refine kat_cons (wpAny_eqBool_int ?_)
 by_cases c1:x.1=y.1
 ·rw[show (x.1 == y.1)=true from beq_iff_eq.mpr c1]
  refine kat_yes (kat_cons (wpAny_eqBool_int ?_))
  by_cases c2:x.2=y.2
  ·rw[show (x.2 == y.2)=true from beq_iff_eq.mpr c2]
   refine kat_yes (kat_nil ?_)
   have:lex x y=false:=decide_eq_false (by ac_rfl)
   rw[this] at h
   exact h
  ·rw[show (x.2 == y.2)=false from beq_eq_false_iff_ne.mpr c2]
   refine kat_no (kat_one _ _ (lt_int ?_))
   have:lex x y=decide (x.2<y.2):=decide_eq_decide.mpr (by ac_rfl)
   rw[this] at h
   exact h
 ·rw[show (x.1 == y.1)=false from beq_eq_false_iff_ne.mpr c1]
  refine kat_no (oneLt_int ?_)
  have:lex x y=decide (x.1<y.1):=decide_eq_decide.mpr (by ac_rfl)
  rw[this] at h
  exact h
theorem zrr (f:Nat->Int × Int):Ord fun i j=>lex (f i) (f j):=by
 refine ⟨fun i=>decide_eq_false (by ac_rfl),fun i j h=>?_,fun i j k h1 h2=>?_⟩
 ·have:=of_decide_eq_true h
  exact decide_eq_false (by ac_rfl)
 ·have a:=of_decide_eq_false h1
  have b:=of_decide_eq_false h2
  exact decide_eq_false (by ac_rfl)
theorem zlf {a:Addr} {vs:List Value} {n:Nat} {P:PySem.Fin->Shared->Prop} {f:Nat->Int × Int} (ho:s.heap.get? a=some (seqObj "list" vs.toArray n)) (h64:vs.length<64) (hp:∀ i,i<vs.length->zao s.heap (vs.getD i .none) (f i))
  (h:∀ p:Array Nat,In vs.length p->p.Perm (ybl (ybg vs.length))->Up (fun i j=>lex (f i) (f j)) p vs.length->P (.done (.ret .none)) { s with heap:=sortedHeap s.heap a vs (ybl (p.toList.map fun i=>vs.getD i Value.none)) }) :
  wpAny (model prog w) A (Builtin.«list.sort» ⟨[.ref a],[]⟩) P E s:=by
 rw[list_sort_plain]
 have ha:a<s.heap.objs.size:=ydq ho
 refine wpAny_bind (listItems_at ho rfl ?_)
 refine wpAny_bind (listUpdate_at ho rfl ?_ (by rw[yao,sizeLine_eq];ac_rfl) (ydb _))
 obtain ⟨e1,ho1⟩:∃ e1,(s.heap.update a (Obj.mapSeq fun _=>#[])).get? a=some (seqObj "list" #[] e1):=⟨_,get?_update_seq ho (fun _=>#[])⟩
 refine wpAny_bind (seqEpoch_at ho1 rfl ?_)
 refine wpAny_bind (wpAny_newTuple ?_ (by show vs.length<=_;rw[sizeLine_eq];ac_rfl))
 refine wpAny_bind (wpAny_newList ?_ (ydb _))
 refine wpAny_holding ?_
 have ho6:(((s.heap.update a (Obj.mapSeq fun _=>#[])).push (seqObj "tuple" vs.toArray 0)).push (seqObj "list" #[] 0)).get? a=some (seqObj "list" #[] e1):=ydp _ (ydp _ ho1)
 show wpAny (model prog w) A _ P E { s with heap:=((s.heap.update a (Obj.mapSeq fun _=>#[])).push (seqObj "tuple" vs.toArray 0)).push (seqObj "list" #[] 0) }
 dsimp only
 have hsz:vs.toArray.size=vs.length:=by simp
 have outsz:∀ p:Array Nat,p.size=vs.length->(ybl (p.toList.map fun i=>vs.getD i Value.none)).size<=sizeLine:=fun p hp=>by
  rw[yao,yab,yec,hp,sizeLine_eq];ac_rfl
 by_cases h2:vs.toArray.size<2
 ·rw[if_pos h2,if_pos h2]
  refine wpAny_bind (wpAny_pure ?_)
  rw[StateT.run_pure]
  refine wpAny_bind (wpAny_pure ?_)
  dsimp only
  have hin:In vs.length (ybl (ybg vs.length)):=⟨by simp,fun i h=>by rw[yee];simp[h]⟩
  have key:=h (ybl (ybg vs.length)) hin (Array.Perm.refl _) (fun i j h1 h3=>by
   have:i=j:=by ac_rfl
   subst this
   exact (zrr f).irr _)
  have eo:(arrOf (SortSt.mk' general' (vs.toArray.zip vs.toArray) #[] 7 none)).map (·.2)=ybl ((ybl (ybg vs.length)).toList.map fun i=>vs.getD i Value.none):=by
   refine kat_snds rfl ?_
   have e:=kas_range (vs.toArray.zip vs.toArray)
   rw[show (vs.toArray.zip vs.toArray).size=vs.length by simp] at e
   exact e.symm
  refine wpAny_bind (seqEpoch_at ho6 rfl ?_)
  refine wpAny_bind (listUpdate_at ho6 rfl ?_ (ydb _) (by rw[eo];exact Nat.le_succ_of_le (outsz _ hin.1)))
  simp only[bne_self_eq_false,Bool.false_eq_true,if_false]
  rw[eo]
  exact wpAny_pure key
 ·rw[if_neg h2,if_neg h2]
  have kp:∀ b o,b≠a->s.heap.get? b=some o->(((s.heap.update a (Obj.mapSeq fun _=>#[])).push (seqObj "tuple" vs.toArray 0)).push (seqObj "list" #[] 0)).get? b=some o:=fun b o nb e=>ydp _ (ydp _ (by rw[ydt _ _ _ _ nb];exact e))
  have hp':∀ i,i<vs.length->zao (((s.heap.update a (Obj.mapSeq fun _=>#[])).push (seqObj "tuple" vs.toArray 0)).push (seqObj "list" #[] 0)) (vs.getD i .none) (f i):=fun i hi=>by
   obtain ⟨b,o,m,t,u,e,eo,c,d⟩:=hp i hi
   refine ⟨b,o,m,t,u,e,kp b o (fun z=>?_) eo,c,d⟩
   subst z
   rw[ho] at eo
   have eo':=Option.some.inj eo
   rw[<-eo'] at c
   exact absurd (show Value.type "list" = Value.type "tuple" from c) (by decide)
  have tups:∀ (ws:List Value) (g:Nat->Int × Int),(∀ i,i<ws.length->zao (((s.heap.update a (Obj.mapSeq fun _=>#[])).push (seqObj "tuple" vs.toArray 0)).push (seqObj "list" #[] 0)) (ws.getD i .none) (g i))->∃ fs,KatTups (((s.heap.update a (Obj.mapSeq fun _=>#[])).push (seqObj "tuple" vs.toArray 0)).push (seqObj "list" #[] 0)) ws fs/\fs.length=ws.length/\∀ v∈fs,∃ m t,v=.int m t:=by
   intro ws
   induction ws with
   | nil=>intro g _;exact ⟨[],KatTups.nil,rfl,fun v hv=>by cases hv⟩
   | cons v ws ih =>
    intro g hg
    obtain ⟨fs,k1,k2,k3⟩:=ih (fun i=>g (i+1)) fun i hi=>hg (i+1) (by simp;ac_rfl)
    obtain ⟨b,o,m,t,u,e,eo,c,d⟩:=hg 0 (by simp)
    have e':v=.ref b:=e
    subst e'
    exact ⟨.int (g 0).1 t::fs,KatTups.cons eo c d rfl k1,by simp[k2],fun v hv=>by
     rcases yak.mp hv with rfl | hv
     ·exact ⟨_,_,rfl⟩
     ·exact k3 v hv⟩
  obtain ⟨fs,k1,k2,k3⟩:=tups vs f hp'
  refine wpAny_bind (kat_kind (T:=.type "int") k1 (by ac_rfl) (fun v hv=>?_) (by decide) ?_)
  ·obtain ⟨m,t,rfl⟩:=k3 v hv
   exact Looks.now
  have ask:(kas_sort vs.length).kasWp (kas_ask prog w A (tuples' (Value.type "int" != Value.type "tuple")) vs) (fun p s''=>(In vs.length p/\p.Perm (ybl (ybg vs.length))/\Up (fun i j=>lex (f i) (f j)) p vs.length)/\s''={ s with heap:=((s.heap.update a (Obj.mapSeq fun _=>#[])).push (seqObj "tuple" vs.toArray 0)).push (seqObj "list" #[] 0) }) { s with heap:=((s.heap.update a (Obj.mapSeq fun _=>#[])).push (seqObj "tuple" vs.toArray 0)).push (seqObj "list" #[] 0) }:=by
   refine ztR (fun i j C hi hj hc=>?_) (fun p g=>⟨g,rfl⟩) _ (zwm (zrr f) (by ac_rfl))
   show wpAny (model prog w) A (keyLt' (tuples' true) (vs.getD i .none) (vs.getD j .none)) C _ _
   exact zvW (hp' i hi) (hp' j hj) hc
  refine wpAny_bind (wpAny_mono (kat_run (Q:=fun st' s'=>∃ p:Array Nat,p.size=vs.length/\arrOf st'=p.map (kas_item (vs.toArray.zip vs.toArray))/\failedOf st'=none/\(In vs.length p/\p.Perm (ybl (ybg vs.length))/\Up (fun i j=>lex (f i) (f j)) p vs.length)/\s'={ s with heap:=((s.heap.update a (Obj.mapSeq fun _=>#[])).push (seqObj "tuple" vs.toArray 0)).push (seqObj "list" #[] 0) })
   rfl (by ac_rfl) h64 (fun p' st' s' a1 a2 a3 a4=>⟨p',a1,a2,a3,a4⟩) ask) ?_ fun _ _ e=>e)
  rintro ⟨⟨⟩,st'⟩ s' ⟨p,hps,har,hf,⟨g1,g2,g3⟩,rfl⟩
  dsimp only
  have hout:=kat_snds rfl har
  rw[hout]
  refine wpAny_bind (seqEpoch_at ho6 rfl ?_)
  refine wpAny_bind (listUpdate_at ho6 rfl ?_ (ydb _) (Nat.le_succ_of_le (outsz p hps)))
  rw[hf]
  simp only[bne_self_eq_false,Bool.false_eq_true,if_false]
  exact wpAny_pure (h p g1 g2 g3)
theorem zuR {l:Addr} {vs:List Value} {Q:Value->Shared->Prop} {f:Nat->Int × Int} (hl:s.heap.IsList l vs.toArray) (h64:vs.length<64) (hp:∀ i,i<vs.length->zao s.heap (vs.getD i .none) (f i))
  (h:∀ p:Array Nat,In vs.length p->p.Perm (ybl (ybg vs.length))->Up (fun i j=>lex (f i) (f j)) p vs.length->Q (.ref (s.heap.objs.size+1)) { s with heap:=sortedAll s.heap vs (ybl (p.toList.map fun i=>vs.getD i Value.none)) }) :
  wpAny (model prog w) A (call (.builtin "sorted") [.ref l]) Q E s:=by
 refine Calls.call_function_entry kind_sorted plain_sorted entry_sorted (args_sorted1 _) ?_
 unfold Builtin.«sorted»
 refine wpAny_bind (m:=checkCount "sorted" 1 1 _) (wpAny_pure ?_)
 refine wpAny_bind (collect_list hl ?_ (by rw[sizeLine_eq];ac_rfl))
 refine wpAny_bind (wpAny_newList ?_ (by rw[sizeLine_eq];ac_rfl))
 have hsz:((s.heap.push (seqObj "list" #[] 0)).update s.heap.objs.size (Obj.mapSeq (·++vs.toArray))).objs.size=s.heap.objs.size+1:=by
  rw[Heap.size_update,size_push']
 have hoL:(((s.heap.push (seqObj "list" #[] 0)).update s.heap.objs.size (Obj.mapSeq (·++vs.toArray))).push (seqObj "list" vs.toArray 0)).get? (s.heap.objs.size+1)=some (seqObj "list" vs.toArray 0):=by
  rw[<-hsz];exact ydr _ rfl
 have keep:∀ b o,s.heap.get? b=some o->(((s.heap.push (seqObj "list" #[] 0)).update s.heap.objs.size (Obj.mapSeq (·++vs.toArray))).push (seqObj "list" vs.toArray 0)).get? b=some o:=fun b o q=>by
  have hlt:b<s.heap.objs.size:=ydq q
  rw[Heap.get?_push_ne _ _ _ (by rw[hsz];exact yda (ydj hlt)),ydt _ _ _ _ (yda hlt),Heap.get?_push_ne _ _ _ (yda hlt)]
  exact q
 show wpAny _ _ _ _ _ { s with heap:=((s.heap.push (seqObj "list" #[] 0)).update s.heap.objs.size (Obj.mapSeq (·++vs.toArray))).push (seqObj "list" vs.toArray 0) }
 rw[hsz]
 refine wpAny_bind (wpAny_holding (wpAny_call_entry slot_list_sort ⟨_,hoL,rfl⟩ entry_list_sort (zlf hoL h64 (fun i hi=>(hp i hi).keep fun a o _ e=>keep a o e) fun p a1 a2 a3=>⟨_,rfl,?_⟩) (args_list_sort _)))
 exact wpAny_pure ⟨_,rfl,h p a1 a2 a3⟩
end
end SortT
namespace L2
open PySem PySem.Spec PyProof.Rows
section
variable {X:Cx} {e k:Expr} {te:TE} {p2 pos:Pos} {lo hi:Option Expr} {tl th:TO}
def zyc (K:W.Frag) (te:TE) (tl th tk:TO):TE:=fun σ H Q=>te σ H fun x H1=>tl σ H1 fun l H2=>th σ H2 fun u H3=>tk σ H3 fun y H4=>∃ a xs,x=.ref a/\l=none/\u=none/\y=some (-1)/\SqL K H4 a xs/\∀ p,H4 p=none->Q (.ref p) (upd H4 p (.lst xs.reverse))
theorem zox {xs:List V} {us:List Value} (r:Vals xs us):Vals xs.reverse us.reverse:=by
 induction r with
 | nil=>exact .nil
 | cons h _ ih=>rw[ycs,ycs];exact ih.append (.cons h .nil)
theorem zsT {tk:TO} (he:PE X e te) (hl:PO X lo tl) (hu:PO X hi th) (hk:PO X (some k) tk):PE X (.Subscript e (.Slice lo hi (some k) p2) pos) (zyc X.K te tl th tk):=by
 intro pins s σ H Q I h
 refine Subscript_ (thn (he pins s σ H _ I h) fun v s1 ⟨x,H1,I1,r1,q1⟩=>?_)
 refine wpAny_Slice (thn (hl pins s1 σ H1 _ I1 q1) fun vl s2 ⟨l,H2,I2,pl,q2⟩=>thn (hu pins s2 σ H2 _ I2 q2) fun vu s3 ⟨u,H3,I3,pu,q3⟩=>thn (hk pins s3 σ H3 _ I3 q3) fun vk s4 ⟨y,H4,I4,pk,q4⟩=>?_)
 obtain ⟨a,xs,rfl,rfl,rfl,rfl,hx,q⟩:=q4
 cases r1
 have I5:Inv X pins σ H4 { s4 with heap:=s4.heap.push { cls:=.type "slice", data:=.fields #[vl,vu,vk] } }:=I4.kept (t':=s4.toks) fun b ob q=>ydp _ q
 obtain ⟨its,r,ht,hz⟩:=I5.list hx
 have hlen:=r.length
 show wpAny (model X.prog X.w) X.A (subscriptTail e (.Slice lo hi (some k) p2) (.ref a) (.ref s4.heap.objs.size)) (EP X pins σ Q) X.xe { s4 with heap:=s4.heap.push { cls:=.type "slice", data:=.fields #[vl,vu,vk] } }
 refine tail_any (ops:=[.ref a,.ref s4.heap.objs.size]) ht.isList.typeIs slot_list_getitem.lookup ?_ (by with_unfolding_all rfl)
 refine wpAny_getItem_list_slice ht.isList (Heap.IsSliceOf.new ..) pl pu pk (by decide) ?_ (by rw[yao] <;> ac_rfl)
 rw[PySem.W.krv_pick]
 refine ⟨.ref (s4.heap.push { cls:=.type "slice", data:=.fields #[vl,vu,vk] }).objs.size,_,I5.laid (t':=s4.toks) (o:=.lst xs.reverse) (fun b ob q=>ydp _ q) (ycz _) ?_,rfl,q _ (I5.hok.fresh (ycz _))⟩
 exact ⟨by rw[ycw];exact hz,_,0,zox r,ydr _ rfl⟩
theorem map_getD {α:Type} (l:List α) (d:α):(ybg l.length).map (fun i=>l.getD i d)=l:=by
 apply ybz
 intro i
 rw[yaj]
 by_cases h:i<l.length
 ·rw[ycc h,yaa h]
  simp[h]
 ·rw[yat (by simp;ac_rfl),yat (by ac_rfl)]
  rfl
theorem zlA {α:Type} {f:α->V} {g:α->Value}:∀ is:List α,(∀ i∈is,RelV (f i) (g i))->Vals (is.map f) (is.map g)
 | [],_=>.nil
 | i::is,h=>.cons (h i (yas ..)) (zlA is fun j hj=>h j (yam _ hj))
theorem zpv (hex:X.ex=[]:=by rfl):zbh X (.builtin "sorted") (fun xs H Q=>∃ (p:Addr) (vs:List V) (l:List (Int × Int)),xs=[.ref p]/\SqL X.K H p vs/\zA X.K H vs l/\l.length<64 /\
  ∀ (q:Addr) (H':Hp) (ws:List V) (r:List (Int × Int)),H q=none->Same H H'->H' q=some (.lst ws)->zA X.K H' ws r->r.Perm l->(r.Pairwise fun s t=>s.1<=t.1)->Q (.ref q) H'):=by
 intro pins s σ H xs us Q I r h
 obtain ⟨p,vs,l,rfl,hp,hR,hl,q⟩:=h
 obtain ⟨u,rfl,rx⟩:=vals1 r
 cases rx
 obtain ⟨its,rv,pl,hz⟩:=I.list hp
 have vl:=hR.length
 have len:its.length=l.length:=by rw[<-rv.length,vl]
 have pair:∀ i,i<its.length->SortT.zao s.heap (its.getD i .none) (l.getD i (0,0)):=fun i hi=>by
  have ev:vs[i]?=some (vs[i]'(by ac_rfl)):=yaa (by ac_rfl)
  obtain ⟨a,x,e1,e2,e3⟩:=hR.get ev
  obtain ⟨w,hw,rw'⟩:=rv.get ev
  rw[e1] at rw'
  cases rw'
  obtain ⟨ts,tv,tp,_⟩:=I.tuple (SqT.of e3)
  cases tv with
  | cons t1 tv =>
   cases tv with
   | cons t2 tv =>
    cases tv
    obtain ⟨t,rfl⟩:=t1
    obtain ⟨t',rfl⟩:=t2
    obtain ⟨o,eo,oc,n,od⟩:=(show s.heap.IsTuple a _ from tp)
    refine ⟨a,o,n,t,t',?_,eo,oc,?_⟩
    ·rw[yad,hw];rfl
    ·rw[od,show l.getD i (0,0)=x by rw[yad,e2];rfl]
 refine SortT.zuR pl.isList (by ac_rfl) pair fun P a1 a2 a3=>?_
 obtain ⟨n,at_⟩:=sortedAll_at s.heap its (ybl (P.toList.map fun i=>its.getD i Value.none))
 have pin:∀ i∈P.toList,i<its.length:=fun i hi=>by
  obtain ⟨j,hj,rfl⟩:=yba.mp hi
  have hj':j<its.length:=by rw[<-a1.1];simpa using hj
  have:=a1.2 j hj'
  rw[yee,yed (by rw[a1.1];exact hj')] at this
  simpa using this
 have plen:P.toList.length=its.length:=by rw[yec,a1.1]
 have vl':Vals (P.toList.map fun i=>vs.getD i .non) (P.toList.map fun i=>its.getD i Value.none):=zlA _ fun i hi=>by
  have hi':=pin i hi
  have ev:vs[i]?=some (vs[i]'(by ac_rfl)):=yaa (by ac_rfl)
  obtain ⟨w,hw,rw'⟩:=rv.get ev
  rw[yad,ev,yad,hw]
  exact rw'
 have new:s.heap.get? (s.heap.objs.size+1)=none:=ydw (ydl _)
 have nl:(P.toList.map fun i=>vs.getD i .non).length<=sizeLine:=by rw[yab,plen,sizeLine_eq];ac_rfl
 have I1:Inv X pins σ (upd H (s.heap.objs.size+1) (.lst (P.toList.map fun i=>vs.getD i .non))) { s with heap:=sortedAll s.heap its (ybl (P.toList.map fun i=>its.getD i Value.none)),toks:=s.toks } :=
  I.zpt (fun b o e=>sortedAll_old e) new hex ⟨nl,_,n,vl',by simpa [seqObj] using at_⟩
 have sm:Same H (upd H (s.heap.objs.size+1) (.lst (P.toList.map fun i=>vs.getD i .non))):=ze (I.hok.gone new) _
 refine ⟨.ref (s.heap.objs.size+1),_,I1,rfl,q _ _ _ (P.toList.map fun i=>l.getD i (0,0)) (I.hok.gone new) sm zg (zmD (by rw[yab,yab]) fun j v x h1 h2=>?_) ?_ ?_⟩
 ·rw[yaj] at h1 h2
  obtain ⟨i,hi,rfl⟩:=Option.map_eq_some_iff.mp h1
  rw[hi] at h2
  have h2':l.getD i (0,0)=x:=Option.some.inj h2
  have hi':=pin i (yae hi)
  have ev:vs[i]?=some (vs[i]'(by ac_rfl)):=yaa (by ac_rfl)
  obtain ⟨b,y,e1,e2,e3⟩:=hR.get ev
  have ey:l.getD i (0,0)=y:=by rw[yad,e2];rfl
  refine ⟨b,by rw[yad,ev,<-e1];rfl,?_⟩
  rw[<-h2',ey]
  exact sm _ _ e3
 ·have pp:P.toList.Perm (ybg l.length):=by
   have:=Array.perm_iff_toList_perm.mp a2
   rw[len] at this
   exact this
  have:=pp.map fun i=>l.getD i (0,0)
  rw[map_getD] at this
  exact this
 ·refine yax.mpr fun i j hi hj lt=>?_
  rw[yab] at hi hj
  have up:=a3 i j (ydm lt) (by ac_rfl)
  have gi:∀ m (h:m<P.toList.length),P.getD m 0=P.toList[m]:=fun m h=>by
   rw[yee,yed (by simpa using h)]
   simp
  rw[gi i hi,gi j hj] at up
  have:=of_decide_eq_false up
  rw[ycu,ycu]
  ac_rfl
end
noncomputable def zal (l:List (Int × Int)) (k y:Int):List (Int × Int):=if l.any (fun p=>p.1=k) then l.map (fun p=>if p.1=k then (p.1,y) else p) else l++[(k,y)]
noncomputable def zdm (l:List (Int × Int)):List (Int × Int):=l.foldl (fun acc s=>zal acc s.1 s.2) []
inductive KR:List (Int × Value)->List (Int × Int)->Prop
 | nil:KR [] []
 | cons {k y:Int} {t:Tok} {r:List (Int × Value)} {l:List (Int × Int)}:KR r l->KR ((k,.int y t)::r) ((k,y)::l)
theorem KR.length {r:List (Int × Value)} {l:List (Int × Int)} (h:KR r l):r.length=l.length:=by
 induction h with
 | nil=>rfl
 | cons _ ih=>simp[ih]
theorem KR.any {r:List (Int × Value)} {l:List (Int × Int)} {k:Int} (h:KR r l):r.any (fun kv=>kv.1=k)=l.any (fun p=>p.1=k):=by
 induction h with
 | nil=>rfl
 | cons _ ih=>rw[ych,ych,ih]
theorem KR.snoc {r:List (Int × Value)} {l:List (Int × Int)} {k y:Int} {t:Tok} (h:KR r l):KR (r++[(k,.int y t)]) (l++[(k,y)]):=by
 induction h with
 | nil=>exact .cons .nil
 | cons _ ih=>exact .cons ih
theorem KR.map {r:List (Int × Value)} {l:List (Int × Int)} {k y:Int} {t:Tok} (h:KR r l):KR (r.map fun kv=>if kv.1=k then (kv.1,.int y t) else kv) (l.map fun p=>if p.1=k then (p.1,y) else p):=by
 induction h with
 | nil=>exact .nil
 | @cons k' y' t' r l _ ih =>
  rw[ybi,ybi]
  by_cases e:k'=k
  ·rw[if_pos e,if_pos e];exact .cons ih
  ·rw[if_neg e,if_neg e];exact .cons ih
theorem KR.stored {r:List (Int × Value)} {l:List (Int × Int)} {k y:Int} {t:Tok} (h:KR r l):KR (stored r k (.int y t)) (zal l k y):=by
 unfold PySem.stored zal
 rw[h.any]
 split
 ·exact h.map
 ·exact h.snoc
theorem KR.get {r:List (Int × Value)} {l:List (Int × Int)} (h:KR r l):∀ {i:Nat} {k:Int} {v:Value},r[i]?=some (k,v)->∃ y t,l[i]?=some (k,y)/\v=.int y t:=by
 induction h with
 | nil=>intro i k v e;simp at e
 | cons _ ih =>
  intro i k v e
  cases i with
  | zero=>cases e;exact ⟨_,_,rfl,rfl⟩
  | succ i=>exact ih e
theorem zmR (l:List (Int × Int)) (k y:Int):(zal l k y).length<=l.length+1:=by
 unfold zal
 split
 ·rw[yab];ac_rfl
 ·simp
theorem zlc (l acc:List (Int × Int)):(l.foldl (fun acc s=>zal acc s.1 s.2) acc).length<=acc.length+l.length:=by
 induction l generalizing acc with
 | nil=>simp
 | cons s l ih =>
  rw[ybq]
  have:=ih (zal acc s.1 s.2)
  have:=zmR acc s.1 s.2
  rw[ybc]
  ac_rfl
theorem zqr (l:List (Int × Int)):(zdm l).length<=l.length:=by
 have:=zlc l []
 simpa [zdm] using this
theorem zpX:typeLookup (.type "list") "keys" = pure none:=by rw[typeLookup_type,builtinLookup_eq_fast];kernel_rfl
theorem zkk {prog:Program} {w:World} {A:Around} {E:Value->Shared->Prop} {s:Shared} {a:Addr} {xs:Array Value} {k:Nat} {Q:Option Value->Shared->Prop}
  (hx:s.heap.get? a=some { cls:=.type "list", dict:=none,data:=.seq xs k,slots:=#[] }) (hA:A.handled=none)
  (h:∀ h' tk,(∀ b o,s.heap.get? b=some o->h'.get? b=some o)->Q none { s with heap:=h',toks:=tk }) :
  wpAny (model prog w) A (getAttr? (.ref a) "keys") Q E s:=by
 obtain ⟨hp,g,d,tk,os⟩:=s
 have hT:∀ tk',(⟨hp,g,d,tk',os⟩:Shared).TypeIs (.ref a) "list" := fun _=>⟨_,hx,rfl⟩
 have f1:=sub_AttributeError
 have f3:=F.slot_list_getattribute.lookup
 have f4:=F.slot_list_getattribute.bind (.ref a)
 have f5:=am_list_getattr_none
 unfold getAttr? getAttrBy? getAttrBy
 repeat (any_goals (first | assumption | exact hT _ | ((with_reducible show wpAny _ _ (call (Value.builtin "list.__getattribute__") _ _) _ _ _);refine call_meets F.slot_list_getattribute (hT _) am_entry_list_getattribute (F.args_list_getattribute_2 _ _) (meets_getattribute_miss_list a xs k #[] "keys" _ zpX (by decide +kernel) (by size_fits)) ⟨hx,hA,fun h' tk' e hx'=>?_⟩) | wp_step))
 obtain ⟨t',u',he⟩:=hx'.there
 show wpAny _ _ (getattributeRaised _ _ _ _ _ _ _) _ _ _
 unfold getattributeRaised
 repeat (any_goals (first | assumption | wp_step))
 exact h _ _ hx'.keeps
theorem zcJ:entryFor table "dict.update.loop" = some Builtin.«dict.update.loop»:=entryFor_of_tree (by kernel_rfl)
theorem zaP:plainId "dict.update.loop" = true:=by decide +kernel
section
variable {prog:Program} {w:World} {A:Around} {s:Shared} {R:Result->Shared->Prop}
theorem zaF {h h':Heap} {d:Addr} {kvs:List (Int × Value)} (x:h.DictOf (intKind prog w) d kvs) (k:∀ o,h.get? d=some o->h'.get? d=some o):h'.DictOf (intKind prog w) d kvs:=by
 obtain ⟨o,es,ep,e,r⟩:=x
 exact ⟨o,es,ep,k o e,r⟩
theorem zun {d it p:Addr} {its:List Value} {l:List (Int × Int)} {h₁:Heap} (hh:A.handled=none) (ndi:d≠it) (ndp:d≠p) (nip:it≠p) (len:its.length=l.length) (h64:its.length<64)
  (hR:∀ h' tk kvs,(∀ b o,b≠d->b≠it->h₁.get? b=some o->h'.get? b=some o)->h'.DictOf (intKind prog w) d kvs->KR kvs (zdm l)->R (.ok (.ret .none)) { s with heap:=h',toks:=tk }) :
  ∀ (k i:Nat) (h:Heap) (tk:Nat) (kvs:List (Int × Value)),its.length-i=k->i<=its.length->h.IsListIter it p i->h.IsList p its.toArray->(∀ j,j<its.length->SortT.zao h (its.getD j .none) (l.getD j (0,0))) ->
   h.DictOf (intKind prog w) d kvs->KR kvs ((l.take i).foldl (fun acc s=>zal acc s.1 s.2) [])->(∀ b o,b≠d->b≠it->h₁.get? b=some o->h.get? b=some o) ->
   codeAny (model prog w) A (.builtin "dict.update.loop" ⟨[.ref d,.ref it,rawInt i,.none],[]⟩) R { s with heap:=h,toks:=tk }:=by
 intro k
 induction k with
 | zero =>
  intro i h tk kvs hk hi hit hl hp hd hkr hkeep
  have hin:i=its.length:=by ac_rfl
  refine codeAny_builtin zcJ ?_
  rw[Around.under_plainId zaP _]
  show wpAny _ A.in1 (pyNext (.ref it) >>= _) _ _ _
  refine wpAny_bind (wpAny_pyNext_list_end (s:={ s with heap:=h,toks:=tk }) (A:=A.in1) hh hit hl (by simp;ac_rfl) fun h' he=>?_)
  show wpAny _ _ (Builtin.Dict.addKeywords d [] >>= _) _ _ _
  refine wpAny_bind (wpAny_pure (wpAny_pure ?_))
  refine hR h' tk kvs (fun b o b1 b2 e=>he b o b2 (hkeep b o b1 b2 e)) (zaF hd fun o e=>he d o ndi e) ?_
  rw[hin,len,ycd] at hkr
  exact hkr
 | succ k ih =>
  intro i h tk kvs hk hi hit hl hp hd hkr hkeep
  have hlt:i<its.length:=by ac_rfl
  obtain ⟨a,oa,n,t,u,ea,eo,oc,odt⟩:=hp i hlt
  have hx:its[i]?=some (.ref a):=by
   rw[yad,yaa hlt] at ea
   rw[yaa hlt]
   exact congrArg some ea
  refine codeAny_builtin zcJ ?_
  rw[Around.under_plainId zaP _]
  show wpAny _ A.in1 (pyNext (.ref it) >>= _) _ _ _
  refine wpAny_bind (wpAny_pyNext_list_item (s:={ s with heap:=h,toks:=tk }) (A:=A.in1) hit hl (x:=.ref a) (by simpa using hx) fun h' hit' sb=>?_)
  have ait:a≠it:=fun z=>by
   obtain ⟨o,ho,hc,_⟩:=hit
   rw[z,ho] at eo
   cases eo
   rw[hc] at oc
   exact absurd oc (by decide)
  have ad:a≠d:=fun z=>by
   obtain ⟨o,es,ep,ho,hc,_⟩:=id hd
   rw[z,ho] at eo
   cases eo
   have:=hc.1
   rw[this] at oc
   exact absurd oc (by decide)
  have eo':h'.get? a=some oa:=(sb.2 a ait).trans eo
  have hT:({ s with heap:=h',toks:=tk }:Shared).TypeIs (.ref a) "tuple" := ⟨oa,eo',oc⟩
  have hd':h'.DictOf (intKind prog w) d kvs:=zaF hd fun o e=>(sb.2 d ndi).trans e
  show wpAny _ _ (holding [Value.ref a] _ >>= _) _ _ _
  refine wpAny_bind (wpAny_holding ?_)
  refine wpAny_bind (wpAny_tryCatch ?_)
  unfold Builtin.Dict.pairItems
  refine wpAny_bind (wpAny_typeOf hT ?_)
  rw[if_pos (by decide)]
  refine wpAny_bind (wpAny_seqItems eo' odt ?_)
  refine wpAny_pure ?_
  show wpAny _ _ (holding [Value.int (l.getD i (0,0)).1 t,Value.int (l.getD i (0,0)).2 u] (dictSet d (Value.int (l.getD i (0,0)).1 t) (Value.int (l.getD i (0,0)).2 u))) _ _ _
  refine wpAny_holding ?_
  have kl:=hkr.length
  have fl:=zlc (l.take i) []
  rw[ybe] at fl
  refine wpAny_dictSet_pairs (knd:=intKind prog w) (k:=(l.getD i (0,0)).1) (by first | exact Value.isInt_int _ _ | (simp[intKind,Value.isInt];done) | exact beq_self_eq_true _) hd' (fun h2 hd2 sb2=>?_) (by rw[sizeLine_eq];simp at fl;ac_rfl)
  refine wpAny_pure ⟨plainId_quiet zaP _,?_⟩
  have k2:∀ b o,b≠d->b≠it->h.get? b=some o->h2.get? b=some o:=fun b o b1 b2 e=>(sb2.2 b b1).trans ((sb.2 b b2).trans e)
  refine ih (i+1) h2 _ _ (by ac_rfl) (by ac_rfl) (hit'.at fun o e=>(sb2.2 it ndi.symm).trans e) ?_ (fun j hj=>(hp j hj).keep fun b o eb e=>k2 b o ?_ ?_ e) hd2 ?_ fun b o b1 b2 e=>k2 b o b1 b2 (hkeep b o b1 b2 e)
  ·obtain ⟨o,e,r⟩:=hl
   exact ⟨o,k2 p o ndp.symm nip.symm e,r⟩
  ·intro z
   obtain ⟨b',o',n',t',u',e1,e2,e3,_⟩:=hp j hj
   rw[eb] at e1
   cases e1
   obtain ⟨od,es,ep,ho,hc,_⟩:=id hd
   rw[z,ho] at e2
   cases e2
   rw[hc.1] at e3
   exact absurd e3 (by decide)
  ·intro z
   obtain ⟨b',o',n',t',u',e1,e2,e3,_⟩:=hp j hj
   rw[eb] at e1
   cases e1
   obtain ⟨oi,ho,hc,_⟩:=id hit
   rw[z,ho] at e2
   cases e2
   rw[hc] at e3
   exact absurd e3 (by decide)
  ·have tk:l.take (i+1)=l.take i++[l.getD i (0,0)]:=by
    rw[ybb,yaa (by ac_rfl),yad,yaa (by ac_rfl)]
    rfl
   rw[tk,yck]
   exact hkr.stored
theorem zn6 {E:Value->Shared->Prop} {p:Addr} {its:List Value} {n:Nat} {l:List (Int × Int)} {Q:Value->Shared->Prop} (hh:A.handled=none) (hl:s.heap.get? p=some { cls:=.type "list", dict:=none,data:=.seq its.toArray n,slots:=#[] }) (len:its.length=l.length) (h64:its.length<64)
  (hp:∀ j,j<its.length->SortT.zao s.heap (its.getD j .none) (l.getD j (0,0)))
  (h:∀ h' tk kvs,(∀ b o,s.heap.get? b=some o->h'.get? b=some o)->h'.DictOf (intKind prog w) s.heap.objs.size kvs->KR kvs (zdm l)->Q (.ref s.heap.objs.size) { s with heap:=h',toks:=tk }) :
  wpAny (model prog w) A (call (.type "dict") [.ref p]) Q E s:=by
 have hlt:p<s.heap.objs.size:=ydq hl
 refine callType_codes (Q₁:=fun obj s₁=>obj=.ref s.heap.objs.size/\s₁={ s with heap:=s.heap.push { cls:=.type "dict", data:=.dict #[] } }) F.kt_called_dict (F.kt_typeCall_dict_1 _) F.entry_dict_init (kt_code_dict_new _ ⟨rfl,rfl⟩) ?_
 rintro obj s₁ ⟨rfl,rfl⟩
 have hnew:(s.heap.push { cls:=.type "dict", data:=.dict #[] }).DictOf (intKind prog w) s.heap.objs.size []:=Heap.DictOf.new s.heap
 have hl1:(s.heap.push { cls:=.type "dict", data:=.dict #[] }).get? p=some { cls:=.type "list", dict:=none,data:=.seq its.toArray n,slots:=#[] }:=ydp _ hl
 refine ⟨hnew.typeIs,F.args_dict_init_2 _ _,?_⟩
 unfold Builtin.«dict.__init__»
 refine wpAny_bind ?_
 unfold Builtin.Dict.selfAndRest
 refine wpAny_bind (wpAny_notOrdered_dict hnew.typeIs ?_)
 show wpAny _ _ (pure (s.heap.objs.size,[Value.ref p])) _ _ _
 refine wpAny_pure ?_
 show wpAny _ _ (Builtin.Dict.updateFrom "dict.__init__" s.heap.objs.size (.ref p) [] .none) _ _ _
 unfold Builtin.Dict.updateFrom
 refine wpAny_bind (wpAny_typeOf (T:="list") ⟨_,hl1,rfl⟩ ?_)
 rw[if_pos (by decide)]
 refine wpAny_bind (zkk (s:={ s with heap:=s.heap.push { cls:=.type "dict", data:=.dict #[] } }) hl1 hh fun h2 tk2 k2=>?_)
 rw[if_pos (show (none:Option Value).isNone=true from rfl)]
 refine wpAny_bind (wpAny_rule ?_)
 have hl2:=k2 p _ hl1
 have hd2:=zaF (h':=h2) hnew fun o e=>k2 _ o e
 have lt2:s.heap.objs.size<h2.objs.size:=by
  obtain ⟨o,es,ep,e,_⟩:=hd2
  exact ydq e
 have hlL:h2.IsList p its.toArray:=⟨_,hl2,rfl,n,rfl⟩
 refine wpAny_bind (wpAny_pyIter_list hlL ?_)
 refine wpAny_pure ⟨plainId_quiet zaP _,?_⟩
 refine zun (s:=s) (A:=A.in1) (h₁:=h2) (d:=s.heap.objs.size) (it:=h2.objs.size) (p:=p) (its:=its) (l:=l) hh (yda lt2) (ydk hlt) (ydk (ydi hlt lt2)) len h64 (fun h' tk kvs kp hd' hkr=>?_)
  its.length 0 _ tk2 [] (Nat.sub_zero _) (ydb _) ⟨_,ydr _ rfl,rfl,rfl⟩ (hlL.push _) (fun j hj=>(hp j hj).keep fun a o _ e=>ydp _ (k2 a o (ydp _ e))) (zaF hd2 fun o e=>ydp _ e) .nil fun b o b1 b2 e=>ydp _ e
 refine ⟨rfl,h h' tk kvs (fun b o e=>kp b o (yda (ydq e)) (yda (ydi (ydq e) lt2)) (k2 b o (ydp _ e))) hd' hkr⟩
end
noncomputable def zb8 (P:Program) (w:World) (d:Addr) (l:List (Int × Int)):HO:=.ext fun h=>(d == sysModules)=false/\∃ kvs,h.DictOf (intKind P w) d kvs/\KR kvs l
noncomputable def zso (v d:Addr):HO:=.ext fun h=>h.IsItemsView v d
section
variable {X:Cx} {pins:List (Addr × Obj)} {σ:St} {H:Hp} {s:Shared}
theorem zs3 {vs:List V} {l:List (Int × Int)} {p:Addr} (I:Inv X pins σ H s) (hp:SqL X.K H p vs) (hR:zA X.K H vs l):∃ its,Vals vs its/\s.heap.IsList p its.toArray/\its.length=l.length/\∀ i,i<its.length->SortT.zao s.heap (its.getD i .none) (l.getD i (0,0)):=by
 obtain ⟨its,rv,pl,hz⟩:=I.list hp
 have vl:=hR.length
 refine ⟨its,rv,pl.isList,by rw[<-rv.length,vl],fun i hi=>?_⟩
 have len:its.length=l.length:=by rw[<-rv.length,vl]
 have ev:vs[i]?=some (vs[i]'(by ac_rfl)):=yaa (by ac_rfl)
 obtain ⟨a,x,e1,e2,e3⟩:=hR.get ev
 obtain ⟨w,hw,rw'⟩:=rv.get ev
 rw[e1] at rw'
 cases rw'
 obtain ⟨ts,tv,tp,_⟩:=I.tuple (SqT.of e3)
 cases tv with
 | cons t1 tv =>
  cases tv with
  | cons t2 tv =>
   cases tv
   obtain ⟨t,rfl⟩:=t1
   obtain ⟨t',rfl⟩:=t2
   obtain ⟨o,eo,oc,n,od⟩:=(show s.heap.IsTuple a _ from tp)
   refine ⟨a,o,n,t,t',?_,eo,oc,?_⟩
   ·rw[yad,hw];rfl
   ·rw[od,show l.getD i (0,0)=x by rw[yad,e2];rfl]
theorem zdO (hc:X.calm=true):zbh X (.type "dict") (fun xs H Q=>∃ (p:Addr) (vs:List V) (l:List (Int × Int)),xs=[.ref p]/\H p=some (.lst vs)/\zA X.K H vs l/\l.length<64 /\
  ∀ (d:Addr) (H':Hp),H d=none->Same H H'->H' d=some (zb8 X.prog X.w d (zdm l))->Q (.ref d) H'):=by
 intro pins s σ H xs us Q I r h
 obtain ⟨p,vs,l,rfl,hp,hR,hl,q⟩:=h
 obtain ⟨u,rfl,rx⟩:=vals1 r
 cases rx
 obtain ⟨its,rv,pl,len,pr⟩:=zs3 I (SqL.of hp) hR
 obtain ⟨z,its',n',rv',e'⟩:=(show zai X.prog X.w H s.heap p (.lst vs) from I.hok p _ hp)
 obtain ⟨o,eo,oc,n,od⟩:=pl
 have ei:its=its':=by
  rw[e'] at eo
  cases eo
  have:=od
  simpa using (Data.seq.inj this).1.symm
 subst ei
 have big:sysModules<s.heap.objs.size:=ydi (by decide) (show mainGlobals<s.heap.objs.size from (I.mod.glob.keeps I.bk).lt)
 have lo:(s.heap.objs.size == sysModules)=false:=beq_eq_false_iff_ne.mpr (Ne.symm (yda big))
 refine zn6 (I.ok.hd hc) e' len (by ac_rfl) pr fun h' tk kvs kp hd hkr=>?_
 refine ⟨.ref s.heap.objs.size,_,I.laid (o:=zb8 X.prog X.w s.heap.objs.size (zdm l)) kp (ycz _) ⟨⟨lo,kvs,hd,hkr⟩,(let ⟨o,_,_,e,_⟩:=hd;⟨o,e⟩),fun h1 h2 ⟨lo',kv,x,y⟩ e=>⟨lo',kv,zaF x e,y⟩⟩,rfl,q _ _ (I.hok.fresh (ycz _)) (ze (I.hok.fresh (ycz _)) _) zg⟩
def zwx (P:Program) (w:World) (to:TE):TE:=fun σ H Q=>to σ H fun x H1=>∃ (d:Addr) (l:List (Int × Int)),x=.ref d/\H1 d=some (zb8 P w d l)/\∀ (v:Addr) (H':Hp),H1 v=none->Same H1 H'->H' v=some (zso v d)->Q (.ref v) H'
theorem zoG {o:Expr} {to:TE} {apos cpos:Pos} (ho:PE X o to)
  (hbase:attributeBase o "items" X.env (eval o X.env)=eval o X.env:=by rfl) (hline:(apos.endLine == cpos.line)=true:=by rfl):PE X (.Call (.Attribute o "items" apos) [] [] cpos) (zwx X.prog X.w to):=by
 intro pins s σ H Q I h
 refine wpAny_Call_method0_late hbase hline (thn (ho pins s σ H _ I h) fun v s1 ⟨x,H1,I1,r1,d,l,ex,hd,q1⟩=>?_)
 subst ex
 obtain rfl:v=Value.ref d:=r1
 obtain ⟨lo,kvs,hD,hkr⟩:=(I1.hok d _ hd).1
 refine ⟨"dict", "dict.items", F.plainAttrs_dict,F.slot_dict_items,F.type_dict_items,hD.typeIs,hD.mapOf.noDict,Calls.callWith_builtin rfl (PySem.evalArgs_none ?_)⟩
 refine call_meetsIn PySem.F.slot_dict_items hD.typeIs PySem.F.entry_dict_items (PySem.F.args_dict_items_1 _) (meets_dict_items (intKind X.prog X.w) d lo) ⟨⟨kvs,hD⟩,?_⟩
 exact ⟨.ref s1.heap.objs.size,_,I1.laid (t':=s1.toks) (o:=zso s1.heap.objs.size d) (fun b ob q=>ydp _ q) (ycz _) ⟨⟨_,ydr _ rfl,rfl,rfl⟩,⟨_,ydr _ rfl⟩,fun h1 h2 ⟨o,e,r⟩ k=>⟨o,k o e,r⟩⟩,rfl,
  q1 _ _ (I1.hok.fresh (ycz _)) (ze (I1.hok.fresh (ycz _)) _) zg⟩
theorem zl5 {h':Heap} {tk:Nat} (hex:X.ex=[]) (I:Inv X pins σ H s) (k:∀ b o,s.heap.get? b=some o->h'.get? b=some o):∀ (bs:List (Addr × (Int × Int))),(bs.map (·.1)).Nodup->(∀ b∈bs,s.heap.get? b.1=none/\SortT.zao h' (.ref b.1) b.2) ->
  ∃ H',Inv X pins σ H' { s with heap:=h',toks:=tk }/\Same H H'/\(∀ b∈bs,H' b.1=some (.tup [.int b.2.1,.int b.2.2]))/\∀ a,a ∉ bs.map (·.1)->H' a=H a
 | [],_,_=>⟨H,I.kept k,Same.refl _,(fun _ hb=>absurd hb (ybu)),fun _ _=>rfl⟩
 | b::bs,nd,hb=>by
  obtain ⟨H1,I1,s1,t1,o1⟩:=zl5 hex I k bs (ybj.mp nd).2 fun c hc=>hb c (yam _ hc)
  obtain ⟨hn,a,o,n,t,u,ea,eo,oc,od⟩:=hb b (yas ..)
  cases ea
  obtain ⟨f1,f2,f3,f4⟩:=I.zpI hn hex
  have nb:b.1 ∉ bs.map (·.1):=(ybj.mp nd).1
  have gone:H1 b.1=none:=by rw[o1 _ nb];exact I.hok.gone hn
  refine ⟨_,I1.track (o:=.tup [.int b.2.1,.int b.2.2]) gone f1 f2 f3 f4 ⟨by show 2<=sizeLine;rw[sizeLine_eq];ac_rfl,[.int b.2.1 t,.int b.2.2 u],.cons ⟨t,rfl⟩ (.cons ⟨u,rfl⟩ .nil),⟨o,eo,oc,n,od⟩⟩,s1.trans (ze gone _),fun c hc=>?_,fun c hc=>?_⟩
  ·rcases yak.mp hc with rfl | hc
   ·exact zg
   ·rw[zr (fun z=>nb (by rw[<-z];exact yah.mpr ⟨c,hc,rfl⟩))]
    exact t1 c hc
  ·rw[ybi,yak,not_or] at hc
   rw[zr hc.1]
   exact o1 c hc.2
theorem zkv (hc:X.calm=true) (hex:X.ex=[]:=by rfl):zbh X (.builtin "sorted") (fun xs H Q=>∃ (v d:Addr) (l:List (Int × Int)),xs=[.ref v]/\H v=some (zso v d)/\H d=some (zb8 X.prog X.w d l)/\l.length<64 /\
  ∀ (q:Addr) (H':Hp) (ws:List V) (r:List (Int × Int)),H q=none->Same H H'->H' q=some (.lst ws)->zA X.K H' ws r->r.Perm l->(r.Pairwise fun s t=>s.1<=t.1)->Q (.ref q) H'):=by
 intro pins s σ H xs us Q I r h
 obtain ⟨v,d,l,rfl,hV,hD,hl,q⟩:=h
 obtain ⟨u,rfl,rx⟩:=vals1 r
 cases rx
 have hv:s.heap.IsItemsView v d:=(I.hok v _ hV).1
 obtain ⟨lo,kvs,hd,hkr⟩:=(I.hok d _ hD).1
 obtain ⟨od,es,ep,rd⟩:=hd
 have hat:s.heap.DictAt (intKind X.prog X.w) d kvs ep:=⟨od,es,rd⟩
 have kl:=hkr.length
 refine Calls.call_function_entry kind_sorted plain_sorted entry_sorted (args_sorted1 _) ?_
 unfold Builtin.«sorted»
 refine wpAny_bind (m:=checkCount "sorted" 1 1 _) (wpAny_pure ?_)
 refine wpAny_bind (PySem.W.kdx_collect (A:=X.A.in1) (knd:=intKind X.prog X.w) (kvs:=kvs) (ep:=ep) (I.ok.hd hc) hv hat (by rw[sizeLine_eq];ac_rfl) fun h1 tk as k1 al hG=>?_)
 refine wpAny_bind (wpAny_newList ?_ (by rw[yab,al,sizeLine_eq];ac_rfl))
 have an:as.length=l.length:=by ac_rfl
 have asl:∀ a∈as,a<h1.objs.size:=fun a ha=>hG.there ha
 have fresh:∀ a∈as,s.heap.get? a=none:=fun a ha=>ydw (ydm (hG.above a ha))
 have pr:∀ i,i<as.length->SortT.zao h1 ((as.map Value.ref).getD i .none) (l.getD i (0,0)):=fun i hi=>by
  obtain ⟨key,k,x,e1,e2,e3⟩:=hG.pairs i as[i] (yaa hi)
  obtain ⟨y,t,e4,rfl⟩:=hkr.get e1
  obtain ⟨t',rfl⟩:=Value.isInt_shape e2
  refine ⟨as[i],_,0,t',t,?_,e3,rfl,?_⟩
  ·rw[yad,yaj,yaa hi];rfl
  ·rw[yad,e4];rfl
 have hoL:(h1.push (seqObj "list" (as.map Value.ref).toArray 0)).get? h1.objs.size=some (seqObj "list" (as.map Value.ref).toArray 0):=ydr _ rfl
 show wpAny _ _ _ _ _ { s with heap:=h1.push (seqObj "list" (as.map Value.ref).toArray 0),toks:=tk }
 refine wpAny_bind (wpAny_holding (wpAny_call_entry slot_list_sort ⟨_,hoL,rfl⟩ entry_list_sort (SortT.zlf (f:=fun i=>l.getD i (0,0)) hoL (by rw[yab];ac_rfl) (fun i hi=>(pr i (by rw[yab] at hi;exact hi)).keep fun a o _ e=>ydp _ e) fun P a1 a2 a3=>⟨_,rfl,?_⟩) (args_list_sort _)))
 refine wpAny_pure ⟨_,rfl,?_⟩
 rw[yab] at a1 a2 a3
 obtain ⟨out,hout⟩:∃ out,out=(P.toList.map fun i=>(as.map Value.ref).getD i Value.none):=⟨_,rfl⟩
 show EP X pins σ Q (Value.ref h1.objs.size) { s with heap:=sortedHeap (h1.push (seqObj "list" (as.map Value.ref).toArray 0)) h1.objs.size (as.map Value.ref) (ybl (P.toList.map fun i=>(as.map Value.ref).getD i Value.none)),toks:=tk }
 rw[<-hout]
 have keep3:∀ b o,h1.get? b=some o->(sortedHeap (h1.push (seqObj "list" (as.map Value.ref).toArray 0)) h1.objs.size (as.map Value.ref) out.toArray).get? b=some o:=fun b o e =>
  (sortedHeap_old (yda (ydq e)) (by rw[ydv];exact ydj (ydq e))).trans (ydp _ e)
 obtain ⟨n3,at3⟩:=sortedHeap_at (out:=out.toArray) hoL
 generalize sortedHeap (h1.push (seqObj "list" (as.map Value.ref).toArray 0)) h1.objs.size (as.map Value.ref) out.toArray=h3 at keep3 at3 ⊢
 have zm:(as.zip l).map (·.1)=as:=List.map_fst_zip (by ac_rfl)
 have nd:((as.zip l).map (·.1)).Nodup:=by
  rw[zm]
  exact hG.rise.imp fun {a b} z=>yda z
 have zin:∀ i,i<as.length->(as.getD i 0,l.getD i (0,0))∈as.zip l:=fun i hi=>by
  refine yae (i:=i) ?_
  rw[ycl]
  have hi2:i<l.length:=by ac_rfl
  have g1:as.getD i 0=as[i]:=by rw[yad,yaa hi];rfl
  have g2:l.getD i (0,0)=l[i]:=by rw[yad,yaa hi2];rfl
  rw[g1,g2]
  exact ⟨yaa hi,yaa hi2⟩
 obtain ⟨H1,I1,s1,t1,o1⟩:=zl5 (h':=h3) (tk:=tk) hex I (fun b o e=>keep3 b o (k1 b o e)) (as.zip l) nd fun b hb=>by
  obtain ⟨i,hi⟩:=yav.mp hb
  rw[ycl] at hi
  have hlt:i<as.length:=(yac.mp hi.1).1
  refine ⟨fresh _ (yae hi.1),?_⟩
  have:=(pr i hlt).keep (h':=h3) fun a o _ e=>keep3 a o e
  rw[yad,yaj,hi.1,yad,hi.2] at this
  exact this
 have hnL:s.heap.get? h1.objs.size=none:=by
  cases e:s.heap.get? h1.objs.size with
  | none=>rfl
  | some o=>exact absurd (ydq (k1 _ o e)) (ydf _)
 obtain ⟨f1,f2,f3,f4⟩:=I.zpI hnL hex
 have nLa:h1.objs.size ∉ (as.zip l).map (·.1):=by
  rw[zm]
  exact fun z=>ydf _ (asl _ z)
 have goneL:H1 h1.objs.size=none:=by rw[o1 _ nLa];exact I.hok.gone hnL
 have pin:∀ i∈P.toList,i<as.length:=fun i hi=>by
  obtain ⟨j,hj,rfl⟩:=yba.mp hi
  have hj':j<as.length:=by rw[<-a1.1];simpa using hj
  have:=a1.2 j hj'
  rw[yee,yed (by rw[a1.1];exact hj')] at this
  simpa using this
 have plen:P.toList.length=as.length:=by rw[yec,a1.1]
 have vl':Vals (P.toList.map fun i=>V.ref (as.getD i 0)) out:=by
  rw[hout]
  refine zlA _ fun i hi=>?_
  have hi':=pin i hi
  rw[yad,yad,yaj,yaa hi']
  rfl
 have I2:=I1.track (o:=.lst (P.toList.map fun i=>V.ref (as.getD i 0))) goneL f1 f2 f3 f4 ⟨by rw[yab,plen,sizeLine_eq];ac_rfl,out,n3,vl',by simpa [seqObj] using at3⟩
 have sm:Same H (upd H1 h1.objs.size (.lst (P.toList.map fun i=>V.ref (as.getD i 0)))):=s1.trans (ze goneL _)
 refine ⟨.ref h1.objs.size,_,I2,rfl,q _ _ _ (P.toList.map fun i=>l.getD i (0,0)) (I.hok.gone hnL) sm zg (zmD (by rw[yab,yab]) fun j v x e1 e2=>?_) ?_ ?_⟩
 ·rw[yaj] at e1 e2
  obtain ⟨i,hi,rfl⟩:=Option.map_eq_some_iff.mp e1
  rw[hi] at e2
  have e2':l.getD i (0,0)=x:=Option.some.inj e2
  have hi':=pin i (yae hi)
  refine ⟨_,rfl,?_⟩
  rw[<-e2',zr (fun z=>nLa (by rw[zm,<-z,yad,yaa hi'];exact ycp hi'))]
  exact t1 _ (zin i hi')
 ·have pp:P.toList.Perm (ybg l.length):=by
   have:=Array.perm_iff_toList_perm.mp a2
   rw[an] at this
   exact this
  have:=pp.map fun i=>l.getD i (0,0)
  rw[map_getD] at this
  exact this
 ·refine yax.mpr fun i j hi hj lt=>?_
  rw[yab] at hi hj
  have up:=a3 i j (ydm lt) (by ac_rfl)
  have gi:∀ m (h:m<P.toList.length),P.getD m 0=P.toList[m]:=fun m h=>by
   rw[yee,yed (by simpa using h)]
   simp
  rw[gi i hi,gi j hj] at up
  have:=of_decide_eq_false up
  rw[ycu,ycu]
  ac_rfl
end
end L2
namespace Dbt
noncomputable def mx (a b:Int):Int:=if b > a then b else a
noncomputable def mn (a b:Int):Int:=if b<a then b else a
theorem zi5 {a b:Int}:a<=mx a b/\b<=mx a b/\(mx a b=a\/mx a b=b):=by unfold mx;split <;> ac_rfl
theorem zsv {a b:Int}:mn a b<=a/\mn a b<=b/\(mn a b=a\/mn a b=b):=by unfold mn;split <;> ac_rfl
inductive Wd where
 | lend | fee | turn | take | grow
noncomputable def cents:Wd->Int->Int
 | .lend,x=>x
 | .fee,x=>x
 | .take,x => -x
 | _,_=>0
noncomputable def grown:Wd->Int->Int
 | .grow,x=>x
 | _,_=>0
noncomputable def step (u:Int) (w:Wd) (x m n:Int):Int × Int :=
 match w with
 | .lend=>(mn (m+x) (mx 0 ((n+u*x) / u)),n+u*x)
 | .fee=>(mn m (mx 0 ((n+u*x) / u)),n+u*x)
 | .take=>(mn m (mx 0 ((n+u * -x) / u)),n+u * -x)
 | .turn=>(mx 0 (n / u),n)
 | .grow=>(m,n+x)
theorem zsJ (u:Int) (w:Wd) (x m n:Int):(step u w x m n).2=n+u*cents w x+grown w x:=by
 cases w <;> simp[step,cents,grown]
noncomputable def Okd:Wd->Int->Prop
 | .lend,x=>0<=x
 | .grow,x=>0<=x
 | _,_=>True
def Good (u m n:Int):Prop:=0<=m/\m<=mx 0 (n / u)
theorem good0 (u:Int):Good u 0 0:=⟨ydz _,zi5.1⟩
theorem zdA {u:Int} {w:Wd} {x m n:Int} (hu:0<u) (ok:Okd w x) (g:Good u m n):Good u (step u w x m n).1 (step u w x m n).2:=by
 obtain ⟨g0,g1⟩:=g
 cases w with
 | lend =>
  have h0:0<=x:=ok
  have:=zi5 (a:=0) (b:=(n+u*x) / u)
  have:=zsv (a:=m+x) (b:=mx 0 ((n+u*x) / u))
  show 0<=mn (m+x) (mx 0 ((n+u*x) / u))/\mn (m+x) (mx 0 ((n+u*x) / u))<=mx 0 ((n+u*x) / u)
  ac_rfl
 | fee =>
  have:=zi5 (a:=0) (b:=(n+u*x) / u)
  have:=zsv (a:=m) (b:=mx 0 ((n+u*x) / u))
  show 0<=mn m (mx 0 ((n+u*x) / u))/\mn m (mx 0 ((n+u*x) / u))<=mx 0 ((n+u*x) / u)
  ac_rfl
 | take =>
  have:=zi5 (a:=0) (b:=(n+u * -x) / u)
  have:=zsv (a:=m) (b:=mx 0 ((n+u * -x) / u))
  show 0<=mn m (mx 0 ((n+u * -x) / u))/\mn m (mx 0 ((n+u * -x) / u))<=mx 0 ((n+u * -x) / u)
  ac_rfl
 | turn =>
  have:=zi5 (a:=0) (b:=n / u)
  show 0<=mx 0 (n / u)/\mx 0 (n / u)<=mx 0 (n / u)
  ac_rfl
 | grow =>
  have h0:0<=x:=ok
  have h1:n / u<=(n+x) / u:=Int.ediv_le_ediv hu (by ac_rfl)
  have:=zi5 (a:=0) (b:=n / u)
  have:=zi5 (a:=0) (b:=(n+x) / u)
  show 0<=m/\m<=mx 0 ((n+x) / u)
  ac_rfl
theorem ztP {u M G:Int} (hu:0<u):(u*M+G) / u=M+G / u:=by
 rw[Int.add_comm,Int.add_mul_ediv_left G M (by ac_rfl)]
 ac_rfl
variable {u s0 s1 m1 n1 m2 n2 x y:Int}
noncomputable def t1 (s1:Int):Option (Wd × Int)->Wd × Int->Int
 | some (.fee,x),(.fee,y)=>s1+y-x
 | _,_=>s1
end Dbt
namespace L2
open PySem PySem.Spec PyProof.Rows
def zvv (i j:Int):Prop:=0<j/\j<1152921504606846976
section
variable {X:Cx}
theorem zb2:OpR X (binaryOp .FloorDiv) (rI zvv fun i j=>.int (i / j)):=opI fun i j _ _ _ _ _ hc q=>by
 have h1:(0:Int)<j:=hc.1
 have h2:j<1152921504606846976:=hc.2
 refine floordiv_int (by ac_rfl) (by rw[Int.fdiv_eq_ediv_of_nonneg i (by ac_rfl)];exact q) (.inl (PyProof.noPylong_of_log2 ?_))
 have h0:j.natAbs≠0:=by ac_rfl
 have:j.natAbs.log2<60:=(Nat.log2_lt h0).mpr (show j.natAbs<1152921504606846976 by ac_rfl)
 ac_rfl
end
structure MkI (K:W.Frag) (C:Addr):Prop where
 makes:PySem.W.makesIn K C=true
 kp:PySem.W.keepIn K (.ref C)=true
def zxT (C:Addr) (f:Str) (ta:TE):TE:=fun σ H Q=>ta σ H fun x H1=>∃ a dx fs v,x=.ref a/\H1 a=some (.ins C dx fs)/\fs.lookup f=some v/\Q v H1
def zxO (C:Addr) (f:Str) (ta tv:TE):TS:=fun D σ H=>tv σ H fun y H1=>ta σ H1 fun x H2=>∃ a dx fs,x=.ref a/\H2 a=some (.ins C dx fs)/\fs.length<1000/\D.nx σ (upd H2 a (.ins C dx (zaM f y fs)))
section
variable {X:Cx} {C:Addr} {x m f:Str} {p pos pos' apos:Pos} {e o value:Expr} {es:List Expr} {ta tv:TE} {t:TA} {j k:Nat} {ps:List Str} {sp:Sp}
theorem zab (hc:Cls X.K C) (hn:zV X.K C f) (he:PE X e ta) (hb:attributeBase e f X.env (eval e X.env)=eval e X.env:=by rfl):PE X (.Attribute e f pos) (zxT C f ta):=by
 intro pins s σ H Q I h
 refine zrO hb (thn (he pins s σ H _ I h) fun u s1 ⟨x,H1,I1,rx,a,dx,fs,v,ex,ea,l,q⟩=>?_)
 subst ex
 obtain rfl:u=Value.ref a:=rx
 exact zmi I1 ea hc hn l fun u' s2 I2 ru=>⟨v,H1,I2,ru,q⟩
theorem zax (hc:Cls X.K C) (hn:zV X.K C f) (ha:PE X o ta) (hv:PE X value tv) (hs:swapsWith value (some (.Attribute o f pos')) pos.line X.env=pure false:=by rfl):PS X (.Assign [.Attribute o f pos'] value pos) (zxO C f ta tv):=by
 intro pins s σ H D I h
 refine plainObj_wpAny_Assign_Attribute (thn (hv pins s σ H _ I h) fun u s1 ⟨y,H1,I1,ry,q⟩=>thn (ha pins s1 σ H1 _ I1 q) fun ov s2 ⟨x,H2,I2,rx,a,dx,fs,ex,ea,l,q2⟩=>?_) hs
 subst ex
 obtain rfl:ov=Value.ref a:=rx
 exact zmc I2 ea hc hn l ry fun s3 I3=>⟨σ,_,I3,q2⟩
theorem zdr {pl:Sem Bool} (D:zv X.prog X.w X.K X.mg X.base j C m ps sp) (hc:Cls X.K C) (hr:Room k X.A) (he:PE X o ta) (ha:PA X (e::es) t) (hj:j<=k:=by decide)
  (hst:starEach (e::es) X.env=(false,eval e X.env)::starEach es X.env:=by rfl) (hpl:(backTo pos (starEach es X.env)).any (·.1)=false:=by rfl)
  (ht:eval (.Call (.Attribute o m apos) (e::es) [] pos) X.env=(do
   let ov <-eval o X.env
   standAt apos.atName
   let (f,first) <-holding [ov] (getMethod ov m pl)
   callWith pos f first (backTo pos (starEach (e::es) X.env)) (backToKw pos (keywordEach [] X.env))):=by rfl) :
  PE X (.Call (.Attribute o m apos) (e::es) [] pos) (zoo C m sp [] E0 ta t):=by
 obtain ⟨f,fd,F,hm,hb⟩:=D.ex
 exact zwd (pl:=pl) he hc hm F (hr.mono hj) (.all hb) .nil zhl ha hst hpl ht
theorem zQ {pl:Sem Bool} (D:zv X.prog X.w X.K X.mg X.base j C m ps sp) (hc:Cls X.K C) (hr:Room k X.A) (he:PE X o ta) (hj:j<=k:=by decide)
  (ht:eval (.Call (.Attribute o m apos) [] [] pos) X.env=(do
   let ov <-eval o X.env
   standAt apos.atName
   let (f,first) <-holding [ov] (getMethod ov m pl)
   callWith pos f first (backTo pos (starEach [] X.env)) (backToKw pos (keywordEach [] X.env))):=by rfl) :
  PE X (.Call (.Attribute o m apos) [] [] pos) (zoo C m sp [] E0 ta zne):=by
 obtain ⟨f,fd,F,hm,hb⟩:=D.ex
 exact zu2 (pl:=pl) he hc hm F (hr.mono hj) (.all hb) .nil zhl ht
theorem zbv (M:MkI X.K C) (D:zv X.prog X.w X.K X.mg X.base j C "__init__" ps sp) (hr:Room k X.A) (hm:X.mg x=some (.ref C)) (ha:PA X (e::es) t) (hj:j+1<=k:=by decide) (hg:Gl X x:=by rfl)
  (hdb:(x == ("__debug__" : Str))=false:=by decide) (he:starEach (e::es) X.env=(false,eval e X.env)::starEach es X.env:=by rfl) (hpl:(backTo pos (starEach es X.env)).any (·.1)=false:=by rfl) :
  PE X (.Call (.Name x p) (e::es) [] pos) (zu9 C sp [] E0 t):=by
 obtain ⟨f,fd,F,hme,hb⟩:=D.ex
 exact zvK ⟨M.makes,hme.at_,hme.fn,M.kp⟩ F (hr.mono hj) hg hm (.all hb) .nil zhl ha hdb he hpl
end
section
variable {K:W.Frag} {x:Str} {C f:Addr}
theorem zcY (a:PySem.W.nsIn K mainGlobals x=some (some (.ref C))) (h1:PySem.W.makesIn K C=true) (h3:PySem.W.keepIn K (.ref C)=true):MkI K (cA K x):=by
 rw[zdS a];exact ⟨h1,h3⟩
end
noncomputable def zan (u m n:Int):List (Str × V):=[("cent_units", .int u),("principal_cents", .int m),("owed_units", .int n)]
abbrev Deb (K:W.Frag) (H:Hp) (p dx:Addr) (u m n:Int):Prop:=H p=some (.ins (cA K "Debt") dx (zan u m n))
theorem zrR {u m n x:Int}:zaM "owed_units" (.int x) (zan u m n)=zan u m x:=by rfl
theorem zou {u m n x:Int}:zaM "principal_cents" (.int x) (zan u m n)=zan u x n:=by rfl
theorem zbI {u m n:Int}:(zan u m n).length<1000:=by show 3<1000;decide
theorem Deb.same {K:W.Frag} {H H':Hp} {p dx:Addr} {u m n:Int} (e:Deb K H p dx u m n) (s:Same H H'):Deb K H' p dx u m n:=s _ _ e
theorem zi6 {K:W.Frag} {H:Hp} {p q C dx:Addr} {fs:List (Str × V)} {o:HO} {xs:List V} (e:H p=some (.ins C dx fs)) (h:H q=some (.tup xs)):(upd H p o) q=some (.tup xs):=by
 rw[zr (zau h e (by intro z;cases z))];exact h
theorem zD {H:Hp} {p:Addr} (o:HO) (_h:H p=none):(upd H p o) p=some o:=zg
section
variable {H H':Hp} {xs ys zs:List V} {l r:List (Dbt.Wd × Int)} {p:Addr} {d:Dbt.Wd × Int}
end
theorem Deb.putL {K:W.Frag} {H:Hp} {p dx s:Addr} {u m n:Int} {xs:List V} {o:HO} (e:Deb K H p dx u m n) (h:H s=some (.lst xs)):Deb K (upd H s o) p dx u m n:=by
 show (upd H s o) p=_
 rw[zr (zau e h (by intro z;cases z))]
 exact e
theorem zt2 {X:Cx}:zbh X (.type "int") (fun xs H Q=>∃ k,xs=[.bl k]/\∀ t:Int,t=(if k then 1 else 0)->(0<=t/\t<=1)->Q (.int t) H):=by
 intro pins s σ H xs us Q I r h
 obtain ⟨k,e,q⟩:=h
 exact zfn pins s σ H xs us Q I r (.inr ⟨k,e,q _ rfl (by cases k <;> decide)⟩)
structure zt4 (K:W.Frag) (C:Addr):Prop where
 ha:PySem.W.findIn K (.ref C) "__class__" = some (some (.builtin "object.__class__"))
 hn:PySem.W.specialIn K (.builtin "object.__class__") "__get__" = some (some (.builtin "getset_descriptor.__get__"))
 htk:PySem.W.takesIn K (.builtin "object.__class__")=some true
 hm:PySem.W.mroIn K C (.type "object")=some true
theorem zkQ {K:W.Frag} {x:Str} {C:Addr} (a:PySem.W.nsIn K mainGlobals x=some (some (.ref C))) (h1:PySem.W.findIn K (.ref C) "__class__" = some (some (.builtin "object.__class__")))
  (h2:PySem.W.specialIn K (.builtin "object.__class__") "__get__" = some (some (.builtin "getset_descriptor.__get__"))) (h3:PySem.W.takesIn K (.builtin "object.__class__")=some true) (h4:PySem.W.mroIn K C (.type "object")=some true):zt4 K (cA K x):=by
 rw[zdS a];exact ⟨h1,h2,h3,h4⟩
theorem ztt {X:Cx}:zbh X (.builtin "isinstance") (fun xs H Q=>∃ x t D b,xs=[x,.ref D]/\zdg X.K H x t/\PySem.W.kitOne X.K t (.ref D)=some b/\Q (.bl b) H):=by
 intro pins s σ H xs us Q I r h
 obtain ⟨x,t,D,b,rfl,ty,e,q⟩:=h
 obtain ⟨u,w',rfl,rx,rn⟩:=vals2 r
 cases rn
 exact znr I rx ty e fun tk=>⟨.bl b,H,I.tok tk,rfl,q⟩
theorem zyi {s:Str} {A B:Prop} (h:A):if decide (V.str s=V.str s)=true then A else B:=by rw[if_pos (by simp)];exact h
theorem zyg {s t:Str} {A B:Prop} (ne:s≠t) (h:B):if decide (V.str s=V.str t)=true then A else B:=by rw[if_neg (by simpa using ne)];exact h
structure zoJ (K:W.Frag) (C:Addr) (m qual:Str) (st:Stmt) (ps:List Str):Prop where
 ex:∃ (f:Addr) (fd:FuncData),Fun K m qual st f fd/\(PySem.W.specialIn K (.ref C) "__getattribute__" = some (some (.builtin "type.__getattribute__"))/\PySem.W.readsIn K C (.type "type")=true /\
  PySem.W.findCls K (.ref C) (.type "type") m=some (.val (.ref f))/\PySem.W.handedIn (.ref f)=true)/\∀ us:List Value,us.length=ps.length->bindArgs fd ⟨us,[]⟩=pure (ps.zip us)
structure zmI (P:Program) (w:World) (K:W.Frag) (mg:Str->Option Value) (base:Heap) (k:Nat) (C:Addr) (m:Str) (ps:List Str) (sp:Sp):Prop where
 ex:∃ (f:Addr) (fd:FuncData),zcn P w K mg base CX0 k f fd ps sp/\(PySem.W.specialIn K (.ref C) "__getattribute__" = some (some (.builtin "type.__getattribute__"))/\PySem.W.readsIn K C (.type "type")=true /\
  PySem.W.findCls K (.ref C) (.type "type") m=some (.val (.ref f))/\PySem.W.handedIn (.ref f)=true)/\PySem.W.keepIn K (.ref f)=true/\∀ us:List Value,us.length=ps.length->bindArgs fd ⟨us,[]⟩=pure (ps.zip us)
theorem zoJ.ok {P:Program} {w:World} {K:W.Frag} {mg:Str->Option Value} {base:Heap} {C:Addr} {m qual:Str} {st:Stmt} {N ps:List Str} {k:Nat} {sp:Sp} (S:zoJ K C m qual st ps) (sc:zj N ps (zh st)) (len:∀ vs H Q E,sp vs H Q E->vs.length=ps.length)
  (hbody:∀ (f:Addr) (cdv:Value) (A:Around) (outer:List Env) (s:Shared) (H:Hp) (vs:List V) (Q:VK) (E:XK),Room k (A.deeper (envOfC qual (zh st) s.heap.objs.size f cdv))->sp vs H Q E ->
   ∃ t,PSs (zgp CX0 P w K mg base N qual (zh st) f cdv A outer s H E).nox (zaX st) t/\t { nx:=fun _ H'=>Q .non H',rt:=Q } (start N vs) H):zmI P w K mg base (k+1) C m ps sp:=by
 obtain ⟨f,fd,F,hm,hb⟩:=S.ex
 exact ⟨f,fd,F.ok sc len (fun cdv=>hbody f cdv),hm,F.kp,hb⟩
section
variable {X:Cx} {C:Addr} {x m:Str} {p pos apos:Pos} {e o:Expr} {es:List Expr} {t:TA} {j k:Nat} {ps:List Str} {sp:Sp}
theorem zpy {pl:Sem Bool} (D:zmI X.prog X.w X.K X.mg X.base j C m ps sp) (he:PE X o (tC (.ref C))) (hr:Room k X.A) (ha:PA X (e::es) t) (hj:j<=k:=by decide)
  (hst:starEach (e::es) X.env=(false,eval e X.env)::starEach es X.env:=by rfl) (hpl:(backTo pos (starEach es X.env)).any (·.1)=false:=by rfl)
  (ht:eval (.Call (.Attribute o m apos) (e::es) [] pos) X.env=(do
   let ov <-eval o X.env
   standAt apos.atName
   let (f,first) <-holding [ov] (getMethod ov m pl)
   callWith pos f first (backTo pos (starEach (e::es) X.env)) (backToKw pos (keywordEach [] X.env))):=by rfl) :
  PE X (.Call (.Attribute o m apos) (e::es) [] pos) (zrS sp [] E0 t):=by
 intro pins s σ H Q I h
 obtain ⟨f,fd,F,⟨h1,h2,h3,h4⟩,kp,hb⟩:=D.ex
 refine PySem.W.methodCall_KW (pl:=pl) (thn (he pins s σ H (fun v H1=>v=.ref C/\H1=H) I ⟨rfl,rfl⟩) fun u s1 ⟨y,H1,I1,ry,e1,e2⟩=>?_) ht
 subst e1 e2
 obtain rfl:u=Value.ref C:=ry
 refine PySem.W.method_cls I1.kIn h1 (PySem.W.cls_value I1.kIn h2 h3 h4 ?_)
 have I2:=I1.tok (s1.toks+1)
 refine PySem.W.callWith_K (first:=[]) (h₀:=X.base) I.ok.mod.kin kp (thn (ha pos pins _ σ _ _ I2 h) fun us s2 ⟨vs,H2,I3,r,q2⟩=>⟨I3.kIn,?_⟩) hst hpl
 exact zgA (us:=us) (vs:=vs) (dvs:=[]) (ds:=[]) F (hr.mono hj) (.all hb) .nil zhl I3 r q2
end
inductive Ek where
 | out | fee | pay | due | turn | rate | late | still | base
noncomputable def Ek.cls:Ek->Str
 | .out => "Out"
 | .fee => "Fee"
 | .pay => "Pay"
 | .due => "Due"
 | .turn => "Turn"
 | .rate => "Rate"
 | .late => "Late"
 | .still => "Still"
 | .base => "Entry"
noncomputable def Ek.word:Ek->Str
 | .out => "out"
 | .fee => "fee"
 | .pay => "pay"
 | .due => "due"
 | .turn => "turn"
 | .rate => "rate"
 | .late => "late"
 | .still => "still"
 | .base => ""
noncomputable def zmN:Ek->Int->Int->List (Str × V)
 | .turn,d,_=>[("day", .int d)]
 | .base,d,_=>[("day", .int d)]
 | .rate,d,x=>[("day", .int d),("rate", .int x)]
 | .late,d,x=>[("day", .int d),("rate", .int x)]
 | .still,d,x=>[("day", .int d),("until", .int x)]
 | .out,d,x=>[("day", .int d),("amount", .int x)]
 | .fee,d,x=>[("day", .int d),("amount", .int x)]
 | .pay,d,x=>[("day", .int d),("amount", .int x)]
 | .due,d,x=>[("day", .int d),("amount", .int x)]
noncomputable def zya:Ek->Int->Int->List V
 | .turn,d,_=>[.str "turn", .int d]
 | .base,d,_=>[.str "", .int d]
 | k,d,x=>[.str k.word,.int d,.int x]
abbrev zkD (K:W.Frag) (H:Hp) (a dx:Addr) (k:Ek) (d x:Int):Prop:=H a=some (.ins (cA K k.cls) dx (zmN k d x))
theorem zgg (k:Ek) (d x:Int):yby ("day" : Str) (zmN k d x)=some (V.int d):=by cases k <;> rfl
theorem zhe (k:Ek) (d x:Int):yby ("word" : Str) (zmN k d x)=none:=by cases k <;> rfl
noncomputable def zwf:Ek->Int->Int->Prop
 | .fee,_,x => -1000000000000<=x/\x<=1000000000000
 | .rate,_,x=>0<=x/\x<=1000000
 | .late,_,x=>0<=x/\x<=1000000
 | .still,d,x=>d+1<=x/\x<=1000000
 | .turn,_,_=>True
 | .base,_,_=>False
 | .out,_,x=>1<=x/\x<=1000000000000
 | .pay,_,x=>1<=x/\x<=1000000000000
 | .due,_,x=>1<=x/\x<=1000000000000
def zsO (K:W.Frag) (m:Str) (sp:Ek->Sp) (ta:TE) (t:TA):TE:=fun σ H Q=>ta σ H fun x H1=>∃ (k:Ek) (a dx:Addr) (fs:List (Str × V)),x=.ref a/\H1 a=some (.ins (cA K k.cls) dx fs)/\fs.lookup m=none/\t σ H1 fun vs H2=>sp k (x::vs) H2 Q E0
section
variable {X:Cx} {C:Addr} {x m:Str} {p pos apos:Pos} {e o:Expr} {es:List Expr} {ta:TE} {t:TA} {j k:Nat} {ps:List Str}
theorem ztB {pl:Sem Bool} {sp:Ek->Sp} (D:∀ k:Ek,zv X.prog X.w X.K X.mg X.base j (cA X.K k.cls) m ps (sp k)) (hc:∀ k:Ek,Cls X.K (cA X.K k.cls)) (hr:Room k X.A) (he:PE X o ta) (hj:j<=k:=by decide)
  (ht:eval (.Call (.Attribute o m apos) [] [] pos) X.env=(do
   let ov <-eval o X.env
   standAt apos.atName
   let (f,first) <-holding [ov] (getMethod ov m pl)
   callWith pos f first (backTo pos (starEach [] X.env)) (backToKw pos (keywordEach [] X.env))):=by rfl) :
  PE X (.Call (.Attribute o m apos) [] [] pos) (zsO X.K m sp ta zne):=by
 intro pins s σ H Q I h
 refine PySem.W.methodCall_KW (pl:=pl) (thn (he pins s σ H _ I h) fun u s1 ⟨x,H1,I1,rx,kd,a,dx,fs,ex,ea,l,q⟩=>?_) ht
 subst ex
 obtain rfl:u=Value.ref a:=rx
 obtain ⟨f,fd,F,hm,hb⟩:=(D kd).ex
 refine zdC I1 ea (hc kd) hm l ?_
 exact PySem.W.callWith_K0 (first:=[.ref a]) I1.kIn hm.kp (zgA (us:=[.ref a]) (vs:=[.ref a]) (dvs:=[]) (ds:=[]) F (hr.mono hj) (.all hb) .nil zhl I1 (.cons rfl .nil) q)
end
section
variable {K:W.Frag} {x:Str} {C f:Addr}
theorem zww {m qual:Str} {st:Stmt} {ps:List Str} {oc:Value} {od an:Option Addr} {osl:Array (Option Value)} {kV doc pm cdv ct:Value} (a:PySem.W.nsIn K mainGlobals x=some (some (.ref C))) (h1:PySem.W.specialIn K (.ref C) "__getattribute__" = some (some (.builtin "type.__getattribute__")))
  (h2:PySem.W.readsIn K C (.type "type")=true) (h3:PySem.W.findCls K (.ref C) (.type "type") m=some (.val (.ref f))) (h4:PySem.W.handedIn (.ref f)=true)
  (fk:PySem.W.keepIn K (.ref f)=true) (fl:K.lookup f=some ⟨oc,od,.func (PySem.W.fnOf m qual (zcI st) (zaX st) (zh st) .none kV doc pm an cdv ct),osl⟩) (fc:PySem.W.codeIn K cdv qual=true)
  (hb:∀ us:List Value,us.length=ps.length->bindArgs (PySem.W.fnOf m qual (zcI st) (zaX st) (zh st) .none kV doc pm an cdv ct) ⟨us,[]⟩=pure (ps.zip us)):zoJ K (cA K x) m qual st ps:=by
 rw[zdS a];exact ⟨f,_,zp0 fl fc fk,⟨h1,h2,h3,h4⟩,hb⟩
end
section
variable {X:Cx}
end
end L2
namespace L2
open PySem
end L2
namespace L2
noncomputable def eqK:Kd->Kd->Bool
 | .plain,.plain=>true
 | .bank,.bank=>true
 | .thirty,.thirty=>true
 | .exact,.exact=>true
 | _,_=>false
noncomputable def zw4 (k:Kd):Kd->Bool
 | .plain=>true
 | .bank=>eqK k .bank
 | .thirty=>eqK k .thirty
 | .exact=>eqK k .exact
end L2
namespace L2
open PySem PySem.Spec PyProof.Rows
section
variable {M:Model} {A:Around} {E:Value->Shared->Prop} {s:Shared} {B:Heap} {v:Env} {out:List Env} {L e d:Addr} {Q:Unit->Shared->Prop}
end
section
variable {X:Cx} {pins:List (Addr × Obj)} {σ:St} {H:Hp} {s:Shared} {e:Addr} {φ:Heap->Prop}
end
section
variable {P:Program} {w:World} {K:W.Frag} {mg:Str->Option Value} {base:Heap} {N:List Str} {qual:Str} {scope:Scope} {f:Addr} {cd:Value} {A:Around} {outer:List Env} {s₀:Shared} {H₀:Hp} {E:XK}
end
section
variable {M:Model} {A:Around} {E:Value->Shared->Prop} {env:Env} {nm q:Str} {C N:Addr} {bs bm:List Value} {hdct:Bool} {sn:List Str} {sub:List Value} {ab:Bool} {col:Option Bool} {dd:Option Addr} {k0 k1 k2 k3 k5:Option Value} {newId:String}
end
section
variable {X:Cx} {x:Str} {np pos:Pos} {e0:Expr} {t:TA} {C f:Addr} {fd:FuncData} {ps:List Str} {name:Str} {j k:Nat}
end
section
variable {X:Cx} {x:Str} {np cpos pos:Pos} {e0:Expr} {t:TA} {name:Str} {j k:Nat} {E:XK}
end
section
variable {X:Cx} {o value:Expr} {name:Str} {pos pos':Pos} {ta tv:TE} {C:Addr}
end
inductive LL {α:Type} (R:V->α->Prop):List V->List α->Prop
 | nil:LL R [] []
 | cons {v:V} {e:α} {vs:List V} {es:List α}:R v e->LL R vs es->LL R (v::vs) (e::es)
section
variable {α:Type} {R S:V->α->Prop} {vs ws:List V} {es fs:List α}
theorem LL.length (h:LL R vs es):vs.length=es.length:=by
 induction h with
 | nil=>rfl
 | cons _ _ ih=>simp[ih]
theorem LL.imp (f:∀ v e,R v e->S v e) (h:LL R vs es):LL S vs es:=by
 induction h with
 | nil=>exact .nil
 | cons h _ ih=>exact .cons (f _ _ h) ih
theorem LL.append (h:LL R vs es) (k:LL R ws fs):LL R (vs++ws) (es++fs):=by
 induction h with
 | nil=>exact k
 | cons h _ ih=>exact .cons h ih
theorem LL.push {v:V} {e:α} (h:LL R vs es) (k:R v e):LL R (vs++[v]) (es++[e]):=h.append (.cons k .nil)
theorem LL.reverse (h:LL R vs es):LL R vs.reverse es.reverse:=by
 induction h with
 | nil=>exact .nil
 | cons h _ ih=>rw[ycs,ycs];exact ih.push h
theorem LL.get (h:LL R vs es):∀ {i:Nat} {v:V},vs[i]?=some v->∃ e,es[i]?=some e/\R v e:=by
 induction h with
 | nil=>intro i v e;simp at e
 | cons h _ ih =>
  intro i v e
  cases i with
  | zero=>cases e;exact ⟨_,rfl,h⟩
  | succ i=>exact ih e
theorem LL.eqm {g:α->V} (h:LL (fun v e=>v=g e) vs es):vs=es.map g:=by
 induction h with
 | nil=>rfl
 | cons h _ ih=>rw[h,ih];rfl
end
theorem zb6 {α:Type} {J:It} {ix:List Nat} {tt:TT} {te:TE} {σ:St} {l:Addr} {xs:List V} {H:Hp} {R:Hp->Prop} (Y:zgy J H xs) (hl:H l=none) (hz:xs.length<=sizeLine) (es:List α) (len:es.length=xs.length)
  (f:α->Bool) (P:Hp->V->α->Prop) (mono:∀ v e H1 H2,Same H1 H2->P H1 v e->P H2 v e) (put:∀ v e H1 ys zs,H1 l=some (.lst ys)->P H1 v e->P (upd H1 l (.lst zs)) v e)
  (ht:∀ (i:Nat) x e H' Q',xs[i]?=some x->es[i]?=some e->Same H H'->Q' (f e) H'->tt (some x::capts σ ix) H' Q')
  (he:∀ (i:Nat) x e H' Q',xs[i]?=some x->es[i]?=some e->f e=true->Same H H'->(∀ v H2,Same H' H2->P H2 v e->Q' v H2)->te (some x::capts σ ix) H' Q')
  (fin:∀ ys H',Same H H'->H' l=some (.lst ys)->LL (P H') ys (es.filter f)->R H') :
  ∃ W:Nat->Nat->List V->Hp->Prop,(∃ m,W 0 m [] (upd H l (.lst [])))/\ziz ix tt te σ J l R W:=by
 refine ⟨fun i m ys H'=>m=xs.length-i/\i<=xs.length/\LL (P H') ys ((es.take i).filter f)/\Same H H'/\H' l=some (.lst ys),⟨xs.length,by simp,ydb _,by simp;exact .nil,ze hl _,zg⟩,?_⟩
 rintro i m ys H' ⟨rfl,hi,hy,sH,hL⟩
 refine ⟨hL,?_⟩
 by_cases hlt:i<xs.length
 ·have yl:ys.length<=i:=by
   rw[hy.length]
   exact yde (yaq _ _) (by rw[ybe];ac_rfl)
  have eP:es[i]?=some (es[i]'(by ac_rfl)):=yaa (by ac_rfl)
  generalize es[i]'(by ac_rfl)=e at eP
  have tk:es.take (i+1)=es.take i++[e]:=by rw[ybb,eP];rfl
  refine .inr ⟨Y.go i H' sH hlt,by ac_rfl,fun x H2 y=>?_⟩
  obtain ⟨rfl,e2⟩:=Y.yld i H' x H2 sH y
  refine ht i x e _ _ e2 eP sH ?_
  cases b:f e with
  | true =>
   rw[if_pos rfl]
   refine he i x e _ _ e2 eP b sH fun v H3 s3 pv=>?_
   have hL3:=s3 _ _ hL
   refine ⟨hL3,xs.length-(i+1),by ac_rfl,rfl,hlt,?_,zN (sH.trans s3) hl,zg⟩
   rw[tk,ybd,yan b]
   exact ((hy.imp fun v e q=>put v e H3 ys _ hL3 (mono v e _ _ s3 q)).push (put v e H3 ys _ hL3 pv))
  | false =>
   rw[if_neg Bool.false_ne_true]
   refine ⟨xs.length-(i+1),by ac_rfl,rfl,hlt,?_,sH,hL⟩
   rw[tk,ybd,yap (by rw[b];decide)]
   simpa using hy
 ·rw[yaz (by ac_rfl)] at hy
  exact .inl ⟨Y.stop i H' sH (by ac_rfl),fin ys H' sH hL hy⟩
theorem isI {P:Program} {w:World} {k:Int} {t:Tok}:(intKind P w).is k (.int k t)=true:=by first | (simp[intKind,Value.isInt];done) | exact beq_self_eq_true _
noncomputable def lkI (l:List (Int × Int)) (k:Int):Option Int:=(l.find? fun p=>p.1=k).map (·.2)
theorem KR.look {r:List (Int × Value)} {l:List (Int × Int)} {k:Int} {v:V} {u:Value} (rv:RelV v u) (h:KR r l):RelV (((lkI l k).map V.int).getD v) ((valueAt r k).getD u):=by
 induction h with
 | nil=>exact rv
 | @cons k' y t r l _ ih =>
  unfold lkI PySem.valueAt at *
  by_cases e:k'=k
  ·rw[yaw (by simpa using e),yaw (by simpa using e)]
   exact ⟨t,rfl⟩
  ·rw[yar (by simpa using e),yar (by simpa using e)]
   exact ih
section
variable {X:Cx} {pins:List (Addr × Obj)} {σ:St} {H:Hp} {s:Shared} {o i e f value:Expr} {pos pos' apos cpos:Pos} {td ty tx tv:TE}
theorem zo7 {P:Program} {w:World} {H:Hp} {h:Heap} {d:Addr} {kvs:List (Int × Value)} {l:List (Int × Int)} (lo:(d == sysModules)=false) (hd:h.DictOf (intKind P w) d kvs) (hk:KR kvs l):zai P w H h d (zb8 P w d l) :=
 ⟨⟨lo,kvs,hd,hk⟩,(let ⟨o,_,_,e,_⟩:=hd;⟨o,e⟩),fun h1 h2 ⟨lo',kv,x,y⟩ e=>⟨lo',kv,zaF x e,y⟩⟩
def zwN (P:Program) (w:World):TE:=fun _ H Q=>∀ p,H p=none->Q (.ref p) (upd H p (zb8 P w p []))
theorem zuu:PE X (.Dict [] [] pos) (zwN X.prog X.w):=fun pins s σ H Q I h=>by
 have big:sysModules<s.heap.objs.size:=ydi (by decide) (show mainGlobals<s.heap.objs.size from (I.mod.glob.keeps I.bk).lt)
 have new:zai X.prog X.w (upd H s.heap.objs.size (zb8 X.prog X.w s.heap.objs.size [])) (s.heap.push { cls:=.type "dict", data:=.dict #[] }) s.heap.objs.size (zb8 X.prog X.w s.heap.objs.size []) :=
  zo7 (beq_eq_false_iff_ne.mpr (Ne.symm (yda big))) (Heap.DictOf.new s.heap) .nil
 exact wpAny_Dict_empty ⟨.ref s.heap.objs.size,_,I.laid (t':=s.toks) (fun _ _ q=>ydp _ q) (ycz _) new,rfl,h _ (I.hok.fresh (ycz _))⟩
def zvk (P:Program) (w:World) (td ty tx:TE):TE:=fun σ H Q=>td σ H fun x H1=>∃ (d:Addr) (l:List (Int × Int)),x=.ref d/\H1 d=some (zb8 P w d l)/\ty σ H1 fun y H2=>tx σ H2 fun z H3=>∃ (k:Int),y=.int k/\H3 d=some (zb8 P w d l)/\Q (((lkI l k).map V.int).getD z) H3
theorem zrq (ho:PE X o td) (he:PE X e ty) (hf:PE X f tx) (hb:attributeBase o "get" X.env (eval o X.env)=eval o X.env:=by rfl)
  (few:((backTo cpos (starEach [e,f] X.env)).all (fun x=>!x.1) && (backToKw cpos (keywordEach [] X.env)).all (fun x=>x.1.isSome)
   && decide (([e,f]:List Expr).length+([]:List Keyword).length+(if ([]:List Keyword).isEmpty then 0 else 1)<30))=true:=by rfl)
  (line:(apos.endLine == cpos.line)=true:=by rfl) (trees:backTo cpos (starEach [e,f] X.env)=[(false,eval e X.env),(false,eval f X.env)]:=by rfl):PE X (.Call (.Attribute o "get" apos) [e,f] [] cpos) (zvk X.prog X.w td ty tx):=by
 intro pins s σ H Q I h
 refine wpAny_Call_method hb few line PySem.F.plainAttrs_dict PySem.F.slot_dict_get PySem.F.type_dict_get (thn (ho pins s σ H _ I h) fun u s1 ⟨x,H1,I1,rx,d,l,ex,hd,q1⟩=>?_)
 subst ex
 obtain rfl:u=Value.ref d:=rx
 obtain ⟨lo,kvs,hD,hk⟩:=(I1.hok d _ hd).1
 refine ⟨hD.typeIs,hD.mapOf.noDict,?_⟩
 rw[trees]
 refine Calls.callWith_builtin rfl (Calls.evalArgs_plain (Calls.spliced_cons (thn (he pins s1 σ H1 _ I1 q1) fun iv s2 ⟨y,H2,I2,ry,q2⟩ =>
  Calls.spliced_cons (thn (hf pins s2 σ H2 _ I2 q2) fun fv s3 ⟨z,H3,I3,rz,k,ek,hd3,q3⟩=>Calls.spliced_nil ?_))))
 subst ek
 obtain ⟨t,rfl⟩:=ry
 obtain ⟨lo3,kvs3,hD3,hk3⟩:=(I3.hok d _ hd3).1
 exact call_meetsIn PySem.F.slot_dict_get hD3.typeIs PySem.F.entry_dict_get (PySem.F.args_dict_get_3 _ _ _) (meets_dict_get_default (intKind X.prog X.w) d isI lo3 fv) ⟨_,hD3.mapOf,_,H3,I3.tok _,hk3.look rz,q3⟩
def zxs (P:Program) (w:World) (td ty tv:TE):TS:=fun D σ H=>tv σ H fun v H1=>td σ H1 fun x H2=>ty σ H2 fun y H3=>∃ (d:Addr) (l:List (Int × Int)) (k n:Int),x=.ref d/\y=.int k/\v=.int n/\H3 d=some (zb8 P w d l)/\l.length<=1000/\D.nx σ (upd H3 d (zb8 P w d (zal l k n)))
theorem zwq (ho:PE X o td) (hi:PE X i ty) (hv:PE X value tv) (hs:swapsWith value (some (.Subscript o i pos')) pos.line X.env=pure false:=by rfl):PS X (.Assign [.Subscript o i pos'] value pos) (zxs X.prog X.w td ty tv):=by
 intro pins s σ H D I h
 refine wpAny_Assign_Subscript (thn (hv pins s σ H _ I h) fun r s1 ⟨v,H1,I1,rv,q1⟩=>thn (ho pins s1 σ H1 _ I1 q1) fun u s2 ⟨x,H2,I2,rx,q2⟩=>thn (hi pins s2 σ H2 _ I2 q2) fun iv s3 ⟨y,H3,I3,ry,d,l,k,n,ex,ey,ev,hd,hl,q3⟩=>?_) hs
 subst ex ey ev
 obtain rfl:u=Value.ref d:=rx
 obtain ⟨t,rfl⟩:=ry
 obtain ⟨t',rfl⟩:=rv
 obtain ⟨lo,kvs,hD,hk⟩:=(I3.hok d _ hd).1
 have sz:=sizeLine_eq
 refine wpAny_setItem_pairs (knd:=intKind X.prog X.w) (k:=k) (hsz:=by rw[hk.length];ac_rfl) isI hD fun h' hD' hs'=>?_
 have he:∃ q,h'.get? d=some q:=let ⟨q,_,_,hq,_⟩:=hD';⟨q,hq⟩
 exact ⟨σ,_,I3.write (x:=d) (e:=d) (by rw[hd];exact True.intro) (.inl rfl) (fun b q hb z=>(hs'.2 b hb).trans z) he (zo7 lo hD' hk.stored),q3⟩
end
section
variable {X:Cx} {m f:Str} {pos apos:Pos} {o e:Expr} {ta:TE} {j k:Nat} {ps:List Str}
theorem zcP (K:W.Frag) (he:PE X e ta) (hb:attributeBase e f X.env (eval e X.env)=eval e X.env) (hK:X.K=K:=by rfl):PE X (.Attribute e f pos) (zxa K ta f):=by
 subst hK
 exact zwE he hb
theorem zf4 (K:W.Frag) {pl:Sem Bool} {sp:Ek->Sp} (D:∀ k:Ek,zv X.prog X.w X.K X.mg X.base j (cA X.K k.cls) m ps (sp k)) (hc:∀ k:Ek,Cls X.K (cA X.K k.cls)) (hr:Room k X.A) (he:PE X o ta) (hj:j<=k:=by decide)
  (ht:eval (.Call (.Attribute o m apos) [] [] pos) X.env=(do
   let ov <-eval o X.env
   standAt apos.atName
   let (f,first) <-holding [ov] (getMethod ov m pl)
   callWith pos f first (backTo pos (starEach [] X.env)) (backToKw pos (keywordEach [] X.env))):=by rfl) (hK:X.K=K:=by rfl) :
  PE X (.Call (.Attribute o m apos) [] [] pos) (zsO K m sp ta zne):=by
 subst hK
 exact ztB (pl:=pl) D hc hr he hj ht
end
end L2
namespace L2
open PySem PySem.Spec PyProof.Rows SortT
section
variable {prog:Program} {w:World} {A:Around} {E:Value->Shared->Prop} {s:Shared}
theorem zvM {a b:Addr} {x y:Int × Int} (pa:zao s.heap (.ref a) x) (pb:zao s.heap (.ref b) y) {P:PySem.Fin->Shared->Prop} (h:P (.done (.ret (.bool (lex y x)))) s):wpAny (model prog w) A (Builtin.«tuple.__gt__» ⟨[.ref a,.ref b],[]⟩) P E s:=by
 obtain ⟨a',oa,na,t,u,e1,hoa,ca,da⟩:=pa
 obtain ⟨b',ob,nb,t',u',e2,hob,cb,db⟩:=pb
 cases e1
 cases e2
 show wpAny _ _ (isInstance (.ref b) (.type "tuple") >>= _) _ _ s
 refine wpAny_bind (wpAny_isInstance ⟨ob,hob,cb⟩ isSubtype_tuple_tuple ?_)
 simp only[Bool.not_true,Bool.false_eq_true,if_false]
 refine wpAny_bind (wpAny_tupleItemsOf hoa da ?_)
 refine wpAny_bind (wpAny_tupleItemsOf hob db ?_)
 refine wpAny_bind ?_
 refine wpAny_forIn_list _ (fun rest r s'=>r.1=none/\s'=s/\(rest=[(.int x.1 t,.int y.1 t'),(.int x.2 u,.int y.2 u')]\/(rest=[(.int x.2 u,.int y.2 u')]/\x.1=y.1)\/(rest=[]/\x=y))) _ ?_ ?_ _ _ ⟨rfl,rfl,.inl rfl⟩
 ·rintro ⟨p,q⟩ rest r s' ⟨hr,rfl,c⟩
  rcases c with c | ⟨c,e⟩ | ⟨c,_⟩
  ·injection c with c1 c2
   cases c1
   subst c2
   refine wpAny_bind (wpAny_eqBool_int ?_)
   by_cases k:x.1=y.1
   ·rw[show (x.1 == y.1)=true from beq_iff_eq.mpr k]
    simp only[Bool.not_true,Bool.false_eq_true,if_false]
    exact wpAny_pure ⟨rfl,rfl,.inr (.inl ⟨trivial,k⟩)⟩
   ·rw[show (x.1 == y.1)=false from beq_eq_false_iff_ne.mpr k]
    simp only[Bool.not_false,if_true]
    have e:lex y x=decide (y.1<x.1):=decide_eq_decide.mpr (by ac_rfl)
    rw[e] at h
    exact wpAny_bind (wpAny_rule (wpAny_bind (gt_int (wpAny_bind (wpAny_pure (wpAny_pure (wpAny_pure h)))))))
  ·injection c with c1 c2
   cases c1
   subst c2
   refine wpAny_bind (wpAny_eqBool_int ?_)
   by_cases k:x.2=y.2
   ·rw[show (x.2 == y.2)=true from beq_iff_eq.mpr k]
    simp only[Bool.not_true,Bool.false_eq_true,if_false]
    exact wpAny_pure ⟨rfl,rfl,.inr (.inr ⟨trivial,Prod.ext e k⟩)⟩
   ·rw[show (x.2 == y.2)=false from beq_eq_false_iff_ne.mpr k]
    simp only[Bool.not_false,if_true]
    have e:lex y x=decide (y.2<x.2):=decide_eq_decide.mpr (by ac_rfl)
    rw[e] at h
    exact wpAny_bind (wpAny_rule (wpAny_bind (gt_int (wpAny_bind (wpAny_pure (wpAny_pure (wpAny_pure h)))))))
  ·cases c
 ·rintro ⟨r1,r2⟩ s' ⟨hr,rfl,c⟩
  simp only at hr
  subst hr
  rcases c with c | ⟨c,_⟩ | ⟨_,rfl⟩
  ·cases c
  ·cases c
  ·have e:lex x x=false:=decide_eq_false (by ac_rfl)
   rw[e] at h
   exact wpAny_pure h
theorem zvF {a b:Addr} {x y:Int × Int} (hu:A.units<cLine) (pa:zao s.heap (.ref a) x) (pb:zao s.heap (.ref b) y) {Q:Value->Shared->Prop} (h:Q (.bool (lex y x)) s):wpAny (model prog w) A (compareOp .Gt (.ref a) (.ref b)) Q E s:=by
 have ta:s.TypeIs (.ref a) "tuple" := by
  obtain ⟨a',o,n,t,u,e1,ho,c,d⟩:=pa
  cases e1
  exact ⟨o,ho,c⟩
 have tb:s.TypeIs (.ref b) "tuple" := by
  obtain ⟨a',o,n,t,u,e1,ho,c,d⟩:=pb
  cases e1
  exact ⟨o,ho,c⟩
 show wpAny _ _ (richCompare .Gt (.ref a) (.ref b)) Q E s
 exact wpAny_richCompare_same_room (op:=.Gt) ta tb F.slot_tuple_gt (wpAny_call_entry F.slot_tuple_gt ta F.entry_tuple_gt (zvM pa pb ⟨_,rfl,(fun e=>nomatch e),h⟩) (F.args_tuple_gt_2 _ _)) hu
end
section
variable {prog:Program} {w:World} {A:Around} {R:Result->Shared->Prop}
def ziN (its:List Value) (ns:List (Int × Int)) (it S:Addr) (h:Heap):Prop:=∀ (i:Nat) n,ns[i]?=some n->∃ a,its[i]?=some (.ref a)/\(a≠it/\a≠S)/\zao h (.ref a) n
theorem ziN.keep {its:List Value} {ns:List (Int × Int)} {it S:Addr} {h h':Heap} (x:ziN its ns it S h) (k:∀ b o,b≠it->b≠S->h.get? b=some o->h'.get? b=some o):ziN its ns it S h':=fun i n hn=>by
 obtain ⟨a,e,ne,q⟩:=x i n hn
 exact ⟨a,e,ne,q.keep fun b o hb ho=>by cases hb;exact k _ o ne.1 ne.2 ho⟩
theorem zvN {it p S:Addr} {kw:List (Str × Value)} {its:List Value} {ns:List (Int × Int)} (hh:A.handled=none) (hu:A.in1.units<cLine) (n1:S≠it) (n2:it≠p) (n3:S≠p) (len:its.length=ns.length) :
  ∀ (k i:Nat) (s:Shared) (j:Nat) (m:Int × Int) (am:Addr) (c:Nat),its.length-i=k->i<=its.length->s.heap.IsListIter it p i->s.heap.IsList p its.toArray->ziN its ns it S s.heap ->
   s.heap.get? S=some { cls:=.type "list", dict:=none,data:=.seq #[.ref am,.ref am] c,slots:=#[] }->its[j]?=some (.ref am)->ns[j]?=some m->zao s.heap (.ref am) m/\am≠it/\am≠S->(∀ (j:Nat) n,j<i->ns[j]?=some n->lex m n=false) ->
   (∀ (j:Nat) (a:Addr) M h' tk',its[j]?=some (.ref a)->ns[j]?=some M->(∀ (i:Nat) n,ns[i]?=some n->lex M n=false)->(∀ b o,b≠it->b≠S->s.heap.get? b=some o->h'.get? b=some o)->R (.ok (.ret (.ref a))) { s with heap:=h',toks:=tk' }) ->
   codeAny (model prog w) A (.builtin "max.loop" ⟨[.ref it,.none,.ref S],kw⟩) R s:=by
 intro k
 induction k with
 | zero =>
  intro i s j m am c hk hi hit hl hP hS hj hm hpm hle hR
  refine codeAny_builtin F.entry_max_loop ?_
  rw[Around.under_plainId F.plain_max_loop _]
  refine wpAny_bind (m:=seqItems? (.ref S)) (wpAny_seqItems hS rfl ?_)
  refine wpAny_bind (m:=tryCatch (pyNext (.ref it)) _) (wpAny_tryCatch ?_)
  refine wpAny_pyNext_list_end (A:=A.in1) hh hit hl (by simp;ac_rfl) fun h' he=>?_
  have hS':=he S _ n1 hS
  refine wpAny_bind (m:=updateSeq S fun _=>#[]) (wpAny_updateSeq hS' rfl (wpAny_bind (wpAny_letGo (wpAny_pure ?_))))
  refine hR j am m _ _ hj hm (fun i' n hn=>hle i' n (by have:=(yac.mp hn).1;ac_rfl) hn) fun b o b1 b2 e=>(yds _ _ (Ne.symm b2)).trans (he b o b1 e)
 | succ k ih =>
  intro i s j m am c hk hi hit hl hP hS hj hm hpm hle hR
  have hlt:i<its.length:=by ac_rfl
  obtain ⟨n,hn⟩:∃ n,ns[i]?=some n:=⟨_,yaa (by ac_rfl)⟩
  obtain ⟨an,ht,ne,pn⟩:=hP i n hn
  refine codeAny_builtin F.entry_max_loop ?_
  rw[Around.under_plainId F.plain_max_loop _]
  refine wpAny_bind (m:=seqItems? (.ref S)) (wpAny_seqItems hS rfl ?_)
  refine wpAny_bind (m:=tryCatch (pyNext (.ref it)) _) (wpAny_tryCatch ?_)
  refine wpAny_pyNext_list_item (A:=A.in1) hit hl (x:=.ref an) (by simpa using ht) fun h' hit' sb=>?_
  have hS':=(sb.2 S n1).trans hS
  have hl':h'.IsList p its.toArray:=by
   obtain ⟨o,e,r⟩:=hl
   exact ⟨o,(sb.2 p (Ne.symm n2)).trans e,r⟩
  have pn':zao h' (.ref an) n:=pn.keep fun b o hb ho=>by cases hb;exact (sb.2 _ ne.1).trans ho
  have pm':zao h' (.ref am) m:=hpm.1.keep fun b o hb ho=>by cases hb;exact (sb.2 _ hpm.2.1).trans ho
  have hP':ziN its ns it S h':=hP.keep fun b o b1 _ e=>(sb.2 b b1).trans e
  have nm:(toString "max" ++ toString ".loop" : String) = "max.loop" := by decide
  refine wpAny_bind (m:=tryCatch (holding [.ref an,.ref an] _) _) (wpAny_tryCatch (wpAny_holding (wpAny_bind (m:=compareOp .Gt (.ref an) (.ref am)) (zvF hu pn' pm' ?_))))
  refine wpAny_bind (wpAny_holding (wpAny_truthy_bool (wpAny_bind (wpAny_letGo (wpAny_pure ?_)))))
  by_cases hb:lex m n=true
  ·rw[hb]
   simp only[if_true]
   refine wpAny_bind (wpAny_updateSeq hS' rfl (wpAny_bind (wpAny_letGo ?_)))
   rw[nm]
   refine wpAny_pure ⟨plainId_quiet F.plain_max_loop _,ih (i+1) _ i n an _ (by ac_rfl) hlt ?_ ?_ ?_ (ydu _ hS' rfl) ht hn ⟨?_,ne⟩ (fun j' a hj' ha=>?_) fun j' a M h'' tk'' h1 h2 h3 kp=>?_⟩
   ·obtain ⟨o,e,r⟩:=hit'
    exact ⟨o,(yds _ _ n1).trans e,r⟩
   ·obtain ⟨o,e,r⟩:=hl'
    exact ⟨o,(yds _ _ n3).trans e,r⟩
   ·exact hP'.keep fun b o _ b2 e=>(yds _ _ (Ne.symm b2)).trans e
   ·exact pn'.keep fun b o hb ho=>by cases hb;exact (yds _ _ (Ne.symm ne.2)).trans ho
   ·rcases Nat.lt_succ_iff_lt_or_eq.mp hj' with hj' | rfl
    ·have:=hle j' a hj' ha
     unfold lex at this hb ⊢
     have h1:=of_decide_eq_true hb
     have h2:=of_decide_eq_false this
     exact decide_eq_false (by ac_rfl)
    ·rw[hn] at ha
     cases ha
     exact decide_eq_false (by ac_rfl)
   ·exact hR j' a M h'' tk'' h1 h2 h3 fun b o b1 b2 e=>kp b o b1 b2 ((yds _ _ (Ne.symm b2)).trans ((sb.2 b b1).trans e))
  ·rw[Bool.eq_false_iff.mpr hb]
   simp only[Bool.false_eq_true,if_false]
   refine wpAny_bind (wpAny_letGo ?_)
   rw[nm]
   refine wpAny_pure ⟨plainId_quiet F.plain_max_loop _,ih (i+1) _ j m am c (by ac_rfl) hlt hit' hl' hP' hS' hj hm ⟨pm',hpm.2⟩ (fun j' a hj' ha=>?_) fun j' a M h'' tk'' h1 h2 h3 kp=>?_⟩
   ·rcases Nat.lt_succ_iff_lt_or_eq.mp hj' with hj' | rfl
    ·exact hle j' a hj' ha
    ·rw[hn] at ha
     cases ha
     exact Bool.eq_false_iff.mpr hb
   ·exact hR j' a M h'' tk'' h1 h2 h3 fun b o b1 b2 e=>kp b o b1 b2 ((sb.2 b b1).trans e)
theorem zs9 (a:Value):argsOk "max" ⟨[a],[]⟩:=by unfold argsOk;kernel_rfl
theorem zrZ {E:Value->Shared->Prop} {s:Shared} {p:Addr} {its:List Value} {ns:List (Int × Int)} {Q:Value->Shared->Prop} (hh:A.handled=none) (hu:A.in1.units<cLine) (hl:s.heap.IsList p its.toArray) (len:its.length=ns.length) (l0:0<ns.length) (val:∀ (i:Nat) n,ns[i]?=some n->∃ a,its[i]?=some (.ref a)/\zao s.heap (.ref a) n)
  (h1:∀ (j:Nat) (a:Addr) M h' tk,its[j]?=some (.ref a)->ns[j]?=some M->(∀ (i:Nat) n,ns[i]?=some n->lex M n=false)->(∀ b o,s.heap.get? b=some o->h'.get? b=some o)->Q (.ref a) { s with heap:=h',toks:=tk }) :
  wpAny (model prog w) A (call (.builtin "max") [.ref p] []) Q E s:=by
 have nm:(toString "max" ++ toString ".loop" : String) = "max.loop" := by decide
 refine zqx (zs9 _) ?_
 refine wpAny_bind (m:=Builtin.Builtins.bindParams "max" ["key", "default"] 0 ⟨[],[]⟩) (wpAny_of_eq (a:=[none,none]) rfl ?_)
 refine wpAny_bind (wpAny_pure (wpAny_bind (wpAny_pyIter_list hl (wpAny_bind (wpAny_newObj_type ?_)))))
 rw[nm]
 have pl:p<s.heap.objs.size:=by
  obtain ⟨o,e,_⟩:=hl
  exact ydq e
 have k1:∀ b o,s.heap.get? b=some o->((s.heap.push { cls:=.type "list_iterator", data:=.fields #[.ref p,.int 0 0] }).push { cls:=.type "list", data:=.seq #[] }).get? b=some o:=fun b o e=>ydp _ (ydp _ e)
 have hit:((s.heap.push { cls:=.type "list_iterator", data:=.fields #[.ref p,.int 0 0] }).push { cls:=.type "list", data:=.seq #[] }).IsListIter s.heap.objs.size p 0:=⟨_,ydp _ (ydr _ rfl),rfl,rfl⟩
 have hS:((s.heap.push { cls:=.type "list_iterator", data:=.fields #[.ref p,.int 0 0] }).push { cls:=.type "list", data:=.seq #[] }).get? (s.heap.push { cls:=.type "list_iterator", data:=.fields #[.ref p,.int 0 0] }).objs.size=some { cls:=.type "list", data:=.seq #[] }:=ydr _ rfl
 have hlt:s.heap.objs.size<(s.heap.push { cls:=.type "list_iterator", data:=.fields #[.ref p,.int 0 0] }).objs.size:=ydq (ydr _ rfl)
 have hl2:=(hl.push { cls:=.type "list_iterator", data:=.fields #[.ref p,.int 0 0] }).push { cls:=.type "list", data:=.seq #[] }
 generalize (s.heap.push { cls:=.type "list_iterator", data:=.fields #[.ref p,.int 0 0] }).objs.size=S at hS hlt ⊢
 generalize (s.heap.push { cls:=.type "list_iterator", data:=.fields #[.ref p,.int 0 0] }).push { cls:=.type "list", data:=.seq #[] }=g at hit hS hl2 k1 ⊢
 have old:∀ b o,s.heap.get? b=some o->b≠s.heap.objs.size/\b≠S:=fun b o e=>by
  have:=ydq e
  exact ⟨yda this,yda (ydi this hlt)⟩
 generalize s.heap.objs.size=it at hit pl hlt old ⊢
 have d1:S≠it:=ydk hlt
 have d2:it≠p:=ydk pl
 have d3:S≠p:=ydk (ydi pl hlt)
 refine wpAny_pure ⟨plainId_quiet F.plain_max_loop _,codeAny_builtin F.entry_max_loop ?_⟩
 rw[Around.under_plainId F.plain_max_loop _]
 refine wpAny_bind (m:=seqItems? (.ref S)) (wpAny_seqItems hS rfl ?_)
 refine wpAny_bind (m:=tryCatch (pyNext (.ref it)) _) (wpAny_tryCatch ?_)
 obtain ⟨n,hn⟩:∃ n,ns[0]?=some n:=⟨_,yaa l0⟩
 have hP:ziN its ns it S g:=fun i n hn=>by
  obtain ⟨a,e,q⟩:=val i n hn
  obtain ⟨a',o,n',t,u,e1,ho,r⟩:=id q
  cases e1
  exact ⟨a,e,old a o ho,q.keep fun b o hb ho=>by cases hb;exact k1 _ o ho⟩
 obtain ⟨an,ht,ne,pn⟩:=hP 0 n hn
 refine wpAny_pyNext_list_item (A:=A.in1) hit hl2 (x:=.ref an) (by simpa using ht) fun h' hit' sb=>?_
 have hS':=(sb.2 S d1).trans hS
 refine wpAny_bind (wpAny_pure (wpAny_bind (wpAny_updateSeq hS' rfl ?_)))
 rw[nm]
 have hP':ziN its ns it S h':=hP.keep fun b o b1 _ e=>(sb.2 b b1).trans e
 have pn':zao h' (.ref an) n:=pn.keep fun b o hb ho=>by cases hb;exact (sb.2 _ ne.1).trans ho
 refine wpAny_pure ⟨plainId_quiet F.plain_max_loop _,zvN (ns:=ns) (its:=its) hh hu d1 d2 d3 len (its.length-1) 1 _ 0 n an _ rfl (by ac_rfl) ?_ ?_ (hP'.keep fun b o _ b2 e=>(yds _ _ (Ne.symm b2)).trans e) (ydu _ hS' rfl) ht hn ⟨pn'.keep fun b o hb ho=>by cases hb;exact (yds _ _ (Ne.symm ne.2)).trans ho,ne⟩ (fun j a hj ha=>?_) fun j a M h'' tk'' q1 q2 q3 kp=>?_⟩
 ·obtain ⟨o,e,r⟩:=hit'
  exact ⟨o,(yds _ _ d1).trans e,r⟩
 ·obtain ⟨o,e,r⟩:=hl2
  exact ⟨o,(yds _ _ d3).trans ((sb.2 p (Ne.symm d2)).trans e),r⟩
 ·obtain rfl:j=0:=by ac_rfl
  rw[hn] at ha
  cases ha
  exact decide_eq_false (by ac_rfl)
 ·exact h1 j a M h'' tk'' q1 q2 q3 fun b o e=>kp b o (old b o e).1 (old b o e).2 ((yds _ _ (Ne.symm (old b o e).2)).trans ((sb.2 b (old b o e).1).trans (k1 b o e)))
end
section
variable {X:Cx}
theorem ztC (hc:X.calm=true) (hu:X.A.units+65<cLine):zbh X (.builtin "max") (fun xs H Q=>∃ (p:Addr) (vs:List V) (l:List (Int × Int)),xs=[.ref p]/\SqL X.K H p vs/\zA X.K H vs l/\0<l.length /\
  ∀ (j:Nat) (t:Addr) (M:Int × Int),vs[j]?=some (.ref t)->l[j]?=some M->(∀ (i:Nat) n,l[i]?=some n->lex M n=false)->Q (.ref t) H):=by
 intro pins s σ H xs us Q I r h
 obtain ⟨p,vs,l,rfl,hp,hR,l0,q⟩:=h
 obtain ⟨u,rfl,rx⟩:=vals1 r
 cases rx
 obtain ⟨its,rv,pl,hz⟩:=I.list hp
 have vl:=hR.length
 have len:its.length=l.length:=by rw[<-rv.length,vl]
 have val:∀ (i:Nat) n,l[i]?=some n->∃ a,vs[i]?=some (.ref a)/\its[i]?=some (.ref a)/\zao s.heap (.ref a) n:=fun i n hn=>by
  have hi:=(yac.mp hn).1
  have ev:vs[i]?=some (vs[i]'(by ac_rfl)):=yaa (by ac_rfl)
  obtain ⟨a,x,e1,e2,e3⟩:=hR.get ev
  obtain ⟨w,hw,rw'⟩:=rv.get ev
  rw[e1] at rw'
  cases rw'
  obtain rfl:x=n:=Option.some.inj (e2.symm.trans hn)
  obtain ⟨ts,tv,tp,_⟩:=I.tuple (SqT.of e3)
  cases tv with
  | cons t1 tv =>
   cases tv with
   | cons t2 tv =>
    cases tv
    obtain ⟨t,rfl⟩:=t1
    obtain ⟨t',rfl⟩:=t2
    obtain ⟨o,eo,oc,n,od⟩:=(show s.heap.IsTuple a _ from tp)
    exact ⟨a,by rw[ev,e1],hw,a,o,n,t,t',rfl,eo,oc,od⟩
 refine zrZ (I.ok.hd hc) ?_ pl.isList len l0 (fun i n hn=>?_) fun j a M h' tk h1 h2 h3 kp=>?_
 ·show X.A.in1.units<cLine
  show X.A.units+1<cLine
  ac_rfl
 ·obtain ⟨a,_,e,p⟩:=val i n hn
  exact ⟨a,e,p⟩
 ·obtain ⟨a',e1,e2,_⟩:=val j M h2
  rw[h1] at e2
  cases e2
  exact ⟨.ref a,H,I.kept kp,rfl,q j a M e1 h2 h3⟩
theorem zti {lo:Int} {n:Nat} {ix:List Nat} {tt:TT} {te:TE} {σ:St} {l:Addr} {H:Hp} {R:Hp->Prop} (hl:H l=none) (hz:n<=sizeLine) (f:Nat->Bool)
  (P:Hp->V->Nat->Prop) (mono:∀ v e H1 H2,Same H1 H2->P H1 v e->P H2 v e) (put:∀ v e H1 ys zs,H1 l=some (.lst ys)->P H1 v e->P (upd H1 l (.lst zs)) v e)
  (ht:∀ (i:Nat) H' Q',i<n->Same H H'->Q' (f i) H'->tt (some (.int (lo+i))::capts σ ix) H' Q')
  (he:∀ (i:Nat) H' Q',i<n->f i=true->Same H H'->(∀ v H2,Same H' H2->P H2 v i->Q' v H2)->te (some (.int (lo+i))::capts σ ix) H' Q')
  (fin:∀ ys H',Same H H'->H' l=some (.lst ys)->LL (P H') ys ((ybg n).filter f)->R H') :
  ∃ W:Nat->Nat->List V->Hp->Prop,(∃ m,W 0 m [] (upd H l (.lst [])))/\ziz ix tt te σ (Itr lo n) l R W:=by
 refine ⟨fun i m ys H'=>m=n-i/\i<=n/\LL (P H') ys ((ybg i).filter f)/\Same H H'/\H' l=some (.lst ys),⟨n,by simp,ydb _,.nil,ze hl _,zg⟩,?_⟩
 rintro i m ys H' ⟨rfl,hi,hy,sH,hL⟩
 refine ⟨hL,?_⟩
 by_cases hlt:i<n
 ·have yl:ys.length<=i:=by
   rw[hy.length]
   exact yde (yaq _ _) (by rw[ycr];exact ycz _)
  refine .inr ⟨hlt,by ac_rfl,fun x H2 y=>?_⟩
  obtain ⟨rfl,rfl⟩:=y
  refine ht i _ _ hlt sH ?_
  cases b:f i with
  | true =>
   rw[if_pos rfl]
   refine he i _ _ hlt b sH fun v H3 s3 pv=>?_
   have hL3:=s3 _ _ hL
   refine ⟨hL3,n-(i+1),by ac_rfl,rfl,hlt,?_,zN (sH.trans s3) hl,zg⟩
   rw[ycx,ybd,yan b]
   exact ((hy.imp fun v e q=>put v e H3 ys _ hL3 (mono v e _ _ s3 q)).push (put v i H3 ys _ hL3 pv))
  | false =>
   rw[if_neg Bool.false_ne_true]
   refine ⟨n-(i+1),by ac_rfl,rfl,hlt,?_,sH,hL⟩
   rw[ycx,ybd,yap (by rw[b];decide)]
   simpa using hy
 ·obtain rfl:i=n:=by ac_rfl
  exact .inl ⟨ycz _,fin ys H' sH hL hy⟩
theorem zur {K:W.Frag} {H:Hp} {α:Type} {f:α->Int × Int} {vs:List V} {l:List α} (h:LL (fun v e=>∃ t,v=.ref t/\H t=some (.tup [.int (f e).1,.int (f e).2])) vs l):zA K H vs (l.map f):=by
 induction h with
 | nil=>exact .nil
 | cons h _ ih =>
  obtain ⟨t,rfl,e⟩:=h
  exact .cons e ih
end
end L2
namespace L2
open PySem PySem.Spec PyProof.Rows
noncomputable def za9 (l:List (Int × V)) (k:Int) (y:V):List (Int × V):=if l.any (fun p=>p.1=k) then l.map (fun p=>if p.1=k then (p.1,y) else p) else l++[(k,y)]
noncomputable def zsz (l:List (Int × V)):List (Int × V):=l.foldl (fun acc s=>za9 acc s.1 s.2) []
noncomputable def lkV (l:List (Int × V)) (k:Int):Option V:=(l.find? fun p=>p.1=k).map (·.2)
inductive KU:List (Int × Value)->List (Int × V)->Prop
 | nil:KU [] []
 | cons {k:Int} {v:V} {u:Value} {r:List (Int × Value)} {l:List (Int × V)}:RelV v u->KU r l->KU ((k,u)::r) ((k,v)::l)
theorem KU.length {r:List (Int × Value)} {l:List (Int × V)} (h:KU r l):r.length=l.length:=by
 induction h with
 | nil=>rfl
 | cons _ _ ih=>simp[ih]
theorem KU.any {r:List (Int × Value)} {l:List (Int × V)} {k:Int} (h:KU r l):r.any (fun kv=>kv.1=k)=l.any (fun p=>p.1=k):=by
 induction h with
 | nil=>rfl
 | cons _ _ ih=>rw[ych,ych,ih]
theorem KU.snoc {r:List (Int × Value)} {l:List (Int × V)} {k:Int} {v:V} {u:Value} (h:KU r l) (rv:RelV v u):KU (r++[(k,u)]) (l++[(k,v)]):=by
 induction h with
 | nil=>exact .cons rv .nil
 | cons r' _ ih=>exact .cons r' ih
theorem KU.map {r:List (Int × Value)} {l:List (Int × V)} {k:Int} {v:V} {u:Value} (h:KU r l) (rv:RelV v u):KU (r.map fun kv=>if kv.1=k then (kv.1,u) else kv) (l.map fun p=>if p.1=k then (p.1,v) else p):=by
 induction h with
 | nil=>exact .nil
 | @cons k' v' u' r l r' _ ih =>
  rw[ybi,ybi]
  by_cases e:k'=k
  ·rw[if_pos e,if_pos e];exact .cons rv ih
  ·rw[if_neg e,if_neg e];exact .cons r' ih
theorem KU.stored {r:List (Int × Value)} {l:List (Int × V)} {k:Int} {v:V} {u:Value} (h:KU r l) (rv:RelV v u):KU (stored r k u) (za9 l k v):=by
 unfold PySem.stored za9
 rw[h.any]
 split
 ·exact h.map rv
 ·exact h.snoc rv
theorem KU.zxt {r:List (Int × Value)} {l:List (Int × V)} {k:Int} {v:V} (h:KU r l) (e:lkV l k=some v):∃ u,valueAt r k=some u/\RelV v u:=by
 induction h with
 | nil=>cases e
 | @cons k' v' u' r l r' _ ih =>
  unfold lkV PySem.valueAt at *
  by_cases c:k'=k
  ·rw[yaw (by simpa using c)] at e ⊢
   cases e
   exact ⟨_,rfl,r'⟩
  ·rw[yar (by simpa using c)] at e ⊢
   exact ih e
theorem KU.zxQ {r:List (Int × Value)} {l:List (Int × V)} {k:Int} (h:KU r l):(valueAt r k).isSome=(lkV l k).isSome:=by
 induction h with
 | nil=>rfl
 | @cons k' v' u' r l r' _ ih =>
  unfold lkV PySem.valueAt at *
  by_cases c:k'=k
  ·rw[yaw (by simpa using c),yaw (by simpa using c)];rfl
  ·rw[yar (by simpa using c),yar (by simpa using c)]
   exact ih
theorem zmA (l:List (Int × V)) (k:Int) (y:V):(za9 l k y).length<=l.length+1:=by
 unfold za9
 split
 ·rw[yab];ac_rfl
 ·simp
theorem zsF (l:List (Int × V)) (k j:Int) (y:V):lkV (za9 l k y) j=if j=k then some y else lkV l j:=by
 unfold za9 lkV
 induction l with
 | nil =>
  by_cases c:j=k
  ·subst c;simp
  ·have c':¬ k=j:=fun z=>c z.symm
   simp[c,c']
 | cons p l ih =>
  by_cases a:p.1=k
  ·have h1:(p::l).any (fun p=>decide (p.1=k))=true:=by rw[ych,decide_eq_true a];rfl
   rw[if_pos h1,ybi,if_pos a]
   by_cases c:j=k
   ·rw[if_pos c,yaw (by simp;ac_rfl)];rfl
   ·rw[if_neg c,yar (by simp;ac_rfl),yar (by simp;ac_rfl)]
    congr 1
    clear ih h1
    induction l with
    | nil=>rfl
    | cons q l ih2 =>
     rw[ybi]
     by_cases e:q.1=k
     ·rw[if_pos e,yar (by simp;ac_rfl),yar (by simp;ac_rfl)];exact ih2
     ·rw[if_neg e]
      by_cases e2:q.1=j
      ·rw[yaw (by simpa using e2),yaw (by simpa using e2)]
      ·rw[yar (by simpa using e2),yar (by simpa using e2)];exact ih2
  ·have h1:(p::l).any (fun p=>decide (p.1=k))=l.any (fun p=>decide (p.1=k)):=by rw[ych,decide_eq_false a];rfl
   rw[h1]
   have st:(if l.any (fun p=>decide (p.1=k))=true then (p::l).map (fun p=>if p.1=k then (p.1,y) else p) else p::l++[(k,y)])=p::(if l.any (fun p=>decide (p.1=k))=true then l.map (fun p=>if p.1=k then (p.1,y) else p) else l++[(k,y)]):=by
    split
    ·rw[ybi,if_neg a]
    ·rfl
   rw[st]
   by_cases e:p.1=j
   ·rw[yaw (by simpa using e),yaw (by simpa using e),if_neg (by ac_rfl)]
   ·rw[yar (by simpa using e),yar (by simpa using e)]
    exact ih
noncomputable def zbi (P:Program) (w:World) (d:Addr) (l:List (Int × V)):HO:=.ext fun h=>(d == sysModules)=false/\∃ kvs,h.DictOf (intKind P w) d kvs/\KU kvs l
section
variable {X:Cx} {pins:List (Addr × Obj)} {σ:St} {H:Hp} {s:Shared} {o i e f value:Expr} {pos pos' apos cpos:Pos} {td ty tx tv:TE}
theorem zlr {P:Program} {w:World} {H:Hp} {h:Heap} {d:Addr} {kvs:List (Int × Value)} {l:List (Int × V)} (lo:(d == sysModules)=false) (hd:h.DictOf (intKind P w) d kvs) (hk:KU kvs l):zai P w H h d (zbi P w d l) :=
 ⟨⟨lo,kvs,hd,hk⟩,(let ⟨o,_,_,e,_⟩:=hd;⟨o,e⟩),fun h1 h2 ⟨lo',kv,x,y⟩ e=>⟨lo',kv,zaF x e,y⟩⟩
def zwL (P:Program) (w:World):TE:=fun _ H Q=>∀ p,H p=none->Q (.ref p) (upd H p (zbi P w p []))
theorem zu5:PE X (.Dict [] [] pos) (zwL X.prog X.w):=fun pins s σ H Q I h=>by
 have big:sysModules<s.heap.objs.size:=ydi (by decide) (show mainGlobals<s.heap.objs.size from (I.mod.glob.keeps I.bk).lt)
 have new:zai X.prog X.w (upd H s.heap.objs.size (zbi X.prog X.w s.heap.objs.size [])) (s.heap.push { cls:=.type "dict", data:=.dict #[] }) s.heap.objs.size (zbi X.prog X.w s.heap.objs.size []) :=
  zlr (beq_eq_false_iff_ne.mpr (Ne.symm (yda big))) (Heap.DictOf.new s.heap) .nil
 exact wpAny_Dict_empty ⟨.ref s.heap.objs.size,_,I.laid (t':=s.toks) (fun _ _ q=>ydp _ q) (ycz _) new,rfl,h _ (I.hok.fresh (ycz _))⟩
def zxE (P:Program) (w:World) (td ty tv:TE):TS:=fun D σ H=>tv σ H fun v H1=>td σ H1 fun x H2=>ty σ H2 fun y H3=>∃ (d:Addr) (l:List (Int × V)) (k:Int),x=.ref d/\y=.int k/\H3 d=some (zbi P w d l)/\l.length<=1000/\D.nx σ (upd H3 d (zbi P w d (za9 l k v)))
theorem zv0 (ho:PE X o td) (hi:PE X i ty) (hv:PE X value tv) (hs:swapsWith value (some (.Subscript o i pos')) pos.line X.env=pure false:=by rfl):PS X (.Assign [.Subscript o i pos'] value pos) (zxE X.prog X.w td ty tv):=by
 intro pins s σ H D I h
 refine wpAny_Assign_Subscript (thn (hv pins s σ H _ I h) fun r s1 ⟨v,H1,I1,rv,q1⟩=>thn (ho pins s1 σ H1 _ I1 q1) fun u s2 ⟨x,H2,I2,rx,q2⟩=>thn (hi pins s2 σ H2 _ I2 q2) fun iv s3 ⟨y,H3,I3,ry,d,l,k,ex,ey,hd,hl,q3⟩=>?_) hs
 subst ex ey
 obtain rfl:u=Value.ref d:=rx
 obtain ⟨t,rfl⟩:=ry
 obtain ⟨lo,kvs,hD,hk⟩:=(I3.hok d _ hd).1
 have sz:=sizeLine_eq
 refine wpAny_setItem_pairs (knd:=intKind X.prog X.w) (k:=k) (hsz:=by rw[hk.length];ac_rfl) isI hD fun h' hD' hs'=>?_
 have he:∃ q,h'.get? d=some q:=let ⟨q,_,_,hq,_⟩:=hD';⟨q,hq⟩
 exact ⟨σ,_,I3.write (x:=d) (e:=d) (by rw[hd];exact True.intro) (.inl rfl) (fun b q hb z=>(hs'.2 b hb).trans z) he (zlr lo hD' (hk.stored rv)),q3⟩
def zwt (P:Program) (w:World):R2:=fun x y H Q=>∃ d l k v,x=.ref d/\y=.int k/\H d=some (zbi P w d l)/\lkV l k=some v/\Q v H
theorem zoB {X:Cx}:IxR X (zwt X.prog X.w):=by
 intro value slice pins s σ H x y v u Q I rx ry h hs
 obtain ⟨d,l,k,z,rfl,rfl,hd,hl,q⟩:=h
 obtain rfl:v=Value.ref d:=rx
 obtain ⟨t,rfl⟩:=ry
 obtain ⟨lo,kvs,hD,hk⟩:=(I.hok d _ hd).1
 obtain ⟨u',e,ru⟩:=hk.zxt hl
 exact subscriptTail_builtinR (x:=u') hD.typeIs slot_dict_getitem.lookup
  (wpAny_getItem_of (Q:=fun r s'=>r=u'/\EP X pins σ Q r s') (knd:=intKind X.prog X.w) (k:=k) isI hD.mapOf e ⟨rfl,z,H,I.tok _,ru,q⟩) hs
theorem zsQ {X:Cx} (P:Program) (w:World) (hP:X.prog=P:=by rfl) (hw:X.w=w:=by rfl):IxR X (zwt P w):=by subst hP hw;exact zoB
def zxV (P:Program) (w:World):R2:=fun x y H Q=>∃ d l k,x=.int k/\y=.ref d/\H d=some (zbi P w d l)/\Q (.bl (lkV l k).isSome) H
theorem zqv {X:Cx}:OpR X (compareOp .In) (zxV X.prog X.w):=by
 intro pins s σ H x y v u Q I rx ry h
 obtain ⟨d,l,k,rfl,rfl,hd,q⟩:=h
 cases ry
 obtain ⟨t,rfl⟩:=rx
 obtain ⟨lo,kvs,hD,hk⟩:=(I.hok d _ hd).1
 refine wpAny_in_of (knd:=intKind X.prog X.w) isI lo hD.mapOf ⟨.bl _,H,I.tok _,rfl,?_⟩
 rw[hk.zxQ]
 exact q
end
def zkT (h:Heap) (v:Value) (x:Int × Value):Prop:=∃ a o n t,v=.ref a/\h.get? a=some o/\o.cls=.type "tuple" /\ o.data=.seq #[.int x.1 t,x.2] n
theorem zkT.keep {h h':Heap} {v:Value} {x:Int × Value} (p:zkT h v x) (k:∀ a o,v=.ref a->h.get? a=some o->h'.get? a=some o):zkT h' v x:=by
 obtain ⟨a,o,n,t,rfl,e,r⟩:=p
 exact ⟨a,o,n,t,rfl,k a o rfl e,r⟩
noncomputable def zhg (l:List (Int × Value)):List (Int × Value):=l.foldl (fun acc s=>stored acc s.1 s.2) []
theorem znU (l:List (Int × Value)) (k:Int) (y:Value):(stored l k y).length<=l.length+1:=by
 unfold PySem.stored
 split
 ·rw[yab];ac_rfl
 ·simp
theorem zpp (l acc:List (Int × Value)):(l.foldl (fun acc s=>stored acc s.1 s.2) acc).length<=acc.length+l.length:=by
 induction l generalizing acc with
 | nil=>simp
 | cons s l ih =>
  rw[ybq]
  have:=ih (stored acc s.1 s.2)
  have:=znU acc s.1 s.2
  rw[ybc]
  ac_rfl
section
variable {prog:Program} {w:World} {A:Around} {s:Shared} {R:Result->Shared->Prop}
theorem ztg {d it p:Addr} {its:List Value} {l:List (Int × Value)} {h₁:Heap} (hh:A.handled=none) (ndi:d≠it) (ndp:d≠p) (nip:it≠p) (len:its.length=l.length) (h64:its.length<1000)
  (hR:∀ h' tk,(∀ b o,b≠d->b≠it->h₁.get? b=some o->h'.get? b=some o)->h'.DictOf (intKind prog w) d (zhg l)->R (.ok (.ret .none)) { s with heap:=h',toks:=tk }) :
  ∀ (k i:Nat) (h:Heap) (tk:Nat),its.length-i=k->i<=its.length->h.IsListIter it p i->h.IsList p its.toArray->(∀ j,j<its.length->zkT h (its.getD j .none) (l.getD j (0,.none))) ->
   h.DictOf (intKind prog w) d (zhg (l.take i))->(∀ b o,b≠d->b≠it->h₁.get? b=some o->h.get? b=some o) ->
   codeAny (model prog w) A (.builtin "dict.update.loop" ⟨[.ref d,.ref it,rawInt i,.none],[]⟩) R { s with heap:=h,toks:=tk }:=by
 intro k
 induction k with
 | zero =>
  intro i h tk hk hi hit hl hp hd hkeep
  have hin:i=its.length:=by ac_rfl
  refine codeAny_builtin zcJ ?_
  rw[Around.under_plainId zaP _]
  show wpAny _ A.in1 (pyNext (.ref it) >>= _) _ _ _
  refine wpAny_bind (wpAny_pyNext_list_end (s:={ s with heap:=h,toks:=tk }) (A:=A.in1) hh hit hl (by simp;ac_rfl) fun h' he=>?_)
  show wpAny _ _ (Builtin.Dict.addKeywords d [] >>= _) _ _ _
  refine wpAny_bind (wpAny_pure (wpAny_pure ?_))
  rw[hin,len,ycd] at hd
  exact hR h' tk (fun b o b1 b2 e=>he b o b2 (hkeep b o b1 b2 e)) (zaF hd fun o e=>he d o ndi e)
 | succ k ih =>
  intro i h tk hk hi hit hl hp hd hkeep
  have hlt:i<its.length:=by ac_rfl
  obtain ⟨a,oa,n,t,ea,eo,oc,odt⟩:=hp i hlt
  have hx:its[i]?=some (.ref a):=by
   rw[yad,yaa hlt] at ea
   rw[yaa hlt]
   exact congrArg some ea
  refine codeAny_builtin zcJ ?_
  rw[Around.under_plainId zaP _]
  show wpAny _ A.in1 (pyNext (.ref it) >>= _) _ _ _
  refine wpAny_bind (wpAny_pyNext_list_item (s:={ s with heap:=h,toks:=tk }) (A:=A.in1) hit hl (x:=.ref a) (by simpa using hx) fun h' hit' sb=>?_)
  have ait:a≠it:=fun z=>by
   obtain ⟨o,ho,hc,_⟩:=hit
   rw[z,ho] at eo
   cases eo
   rw[hc] at oc
   exact absurd oc (by decide)
  have eo':h'.get? a=some oa:=(sb.2 a ait).trans eo
  have hT:({ s with heap:=h',toks:=tk }:Shared).TypeIs (.ref a) "tuple" := ⟨oa,eo',oc⟩
  have hd':h'.DictOf (intKind prog w) d (zhg (l.take i)):=zaF hd fun o e=>(sb.2 d ndi).trans e
  show wpAny _ _ (holding [Value.ref a] _ >>= _) _ _ _
  refine wpAny_bind (wpAny_holding ?_)
  refine wpAny_bind (wpAny_tryCatch ?_)
  unfold Builtin.Dict.pairItems
  refine wpAny_bind (wpAny_typeOf hT ?_)
  rw[if_pos (by decide)]
  refine wpAny_bind (wpAny_seqItems eo' odt ?_)
  refine wpAny_pure ?_
  show wpAny _ _ (holding [Value.int (l.getD i (0,.none)).1 t,(l.getD i (0,.none)).2] (dictSet d (Value.int (l.getD i (0,.none)).1 t) (l.getD i (0,.none)).2)) _ _ _
  refine wpAny_holding ?_
  have fl:=zpp (l.take i) []
  rw[ybe] at fl
  refine wpAny_dictSet_pairs (knd:=intKind prog w) (k:=(l.getD i (0,.none)).1) (by first | exact Value.isInt_int _ _ | (simp[intKind,Value.isInt];done) | exact beq_self_eq_true _) hd' (fun h2 hd2 sb2=>?_) (by rw[sizeLine_eq];unfold zhg;simp at fl;ac_rfl)
  refine wpAny_pure ⟨plainId_quiet zaP _,?_⟩
  have k2:∀ b o,b≠d->b≠it->h.get? b=some o->h2.get? b=some o:=fun b o b1 b2 e=>(sb2.2 b b1).trans ((sb.2 b b2).trans e)
  refine ih (i+1) h2 _ (by ac_rfl) (by ac_rfl) (hit'.at fun o e=>(sb2.2 it ndi.symm).trans e) ?_ (fun j hj=>(hp j hj).keep fun b o eb e=>k2 b o ?_ ?_ e) ?_ fun b o b1 b2 e=>k2 b o b1 b2 (hkeep b o b1 b2 e)
  ·obtain ⟨o,e,r⟩:=hl
   exact ⟨o,k2 p o ndp.symm nip.symm e,r⟩
  ·intro z
   obtain ⟨b',o',n',t',e1,e2,e3,_⟩:=hp j hj
   rw[eb] at e1
   cases e1
   obtain ⟨od,es,ep,ho,hc,_⟩:=id hd
   rw[z,ho] at e2
   cases e2
   rw[hc.1] at e3
   exact absurd e3 (by decide)
  ·intro z
   obtain ⟨b',o',n',t',e1,e2,e3,_⟩:=hp j hj
   rw[eb] at e1
   cases e1
   obtain ⟨oi,ho,hc,_⟩:=id hit
   rw[z,ho] at e2
   cases e2
   rw[hc] at e3
   exact absurd e3 (by decide)
  ·have tk:l.take (i+1)=l.take i++[l.getD i (0,.none)]:=by
    rw[ybb,yaa (by ac_rfl),yad,yaa (by ac_rfl)]
    rfl
   have:zhg (l.take (i+1))=stored (zhg (l.take i)) (l.getD i (0,.none)).1 (l.getD i (0,.none)).2:=by
    unfold zhg
    rw[tk,yck]
    rfl
   rw[this]
   exact hd2
theorem znb {E:Value->Shared->Prop} {p:Addr} {its:List Value} {n:Nat} {l:List (Int × Value)} {Q:Value->Shared->Prop} (hh:A.handled=none) (hl:s.heap.get? p=some { cls:=.type "list", dict:=none,data:=.seq its.toArray n,slots:=#[] }) (len:its.length=l.length) (h64:its.length<1000)
  (hp:∀ j,j<its.length->zkT s.heap (its.getD j .none) (l.getD j (0,.none)))
  (h:∀ h' tk,(∀ b o,s.heap.get? b=some o->h'.get? b=some o)->h'.DictOf (intKind prog w) s.heap.objs.size (zhg l)->Q (.ref s.heap.objs.size) { s with heap:=h',toks:=tk }) :
  wpAny (model prog w) A (call (.type "dict") [.ref p]) Q E s:=by
 have hlt:p<s.heap.objs.size:=ydq hl
 refine callType_codes (Q₁:=fun obj s₁=>obj=.ref s.heap.objs.size/\s₁={ s with heap:=s.heap.push { cls:=.type "dict", data:=.dict #[] } }) F.kt_called_dict (F.kt_typeCall_dict_1 _) F.entry_dict_init (kt_code_dict_new _ ⟨rfl,rfl⟩) ?_
 rintro obj s₁ ⟨rfl,rfl⟩
 have hnew:(s.heap.push { cls:=.type "dict", data:=.dict #[] }).DictOf (intKind prog w) s.heap.objs.size []:=Heap.DictOf.new s.heap
 have hl1:(s.heap.push { cls:=.type "dict", data:=.dict #[] }).get? p=some { cls:=.type "list", dict:=none,data:=.seq its.toArray n,slots:=#[] }:=ydp _ hl
 refine ⟨hnew.typeIs,F.args_dict_init_2 _ _,?_⟩
 unfold Builtin.«dict.__init__»
 refine wpAny_bind ?_
 unfold Builtin.Dict.selfAndRest
 refine wpAny_bind (wpAny_notOrdered_dict hnew.typeIs ?_)
 show wpAny _ _ (pure (s.heap.objs.size,[Value.ref p])) _ _ _
 refine wpAny_pure ?_
 show wpAny _ _ (Builtin.Dict.updateFrom "dict.__init__" s.heap.objs.size (.ref p) [] .none) _ _ _
 unfold Builtin.Dict.updateFrom
 refine wpAny_bind (wpAny_typeOf (T:="list") ⟨_,hl1,rfl⟩ ?_)
 rw[if_pos (by decide)]
 refine wpAny_bind (zkk (s:={ s with heap:=s.heap.push { cls:=.type "dict", data:=.dict #[] } }) hl1 hh fun h2 tk2 k2=>?_)
 rw[if_pos (show (none:Option Value).isNone=true from rfl)]
 refine wpAny_bind (wpAny_rule ?_)
 have hl2:=k2 p _ hl1
 have hd2:=zaF (h':=h2) hnew fun o e=>k2 _ o e
 have lt2:s.heap.objs.size<h2.objs.size:=by
  obtain ⟨o,es,ep,e,_⟩:=hd2
  exact ydq e
 have hlL:h2.IsList p its.toArray:=⟨_,hl2,rfl,n,rfl⟩
 refine wpAny_bind (wpAny_pyIter_list hlL ?_)
 refine wpAny_pure ⟨plainId_quiet zaP _,?_⟩
 refine ztg (s:=s) (A:=A.in1) (h₁:=h2) (d:=s.heap.objs.size) (it:=h2.objs.size) (p:=p) (its:=its) (l:=l) hh (yda lt2) (ydk hlt) (ydk (ydi hlt lt2)) len h64 (fun h' tk kp hd'=>?_)
  its.length 0 _ tk2 (Nat.sub_zero _) (ydb _) ⟨_,ydr _ rfl,rfl,rfl⟩ (hlL.push _) (fun j hj=>(hp j hj).keep fun a o _ e=>ydp _ (k2 a o (ydp _ e))) (zaF hd2 fun o e=>ydp _ e) fun b o b1 b2 e=>ydp _ e
 refine ⟨rfl,h h' tk (fun b o e=>kp b o (yda (ydq e)) (yda (ydi (ydq e) lt2)) (k2 b o (ydp _ e))) hd'⟩
end
noncomputable def zva (K:W.Frag) (H:Hp):List V->List (Int × V)->Prop:=LL fun v s=>∃ t,v=.ref t/\H t=some (.tup [.int s.1,s.2])
theorem KU.fold {us:List (Int × Value)} {l:List (Int × V)} (h:KU us l):∀ {acc:List (Int × Value)} {acl:List (Int × V)},KU acc acl->KU (us.foldl (fun acc s=>PySem.stored acc s.1 s.2) acc) (l.foldl (fun acc s=>za9 acc s.1 s.2) acl):=by
 induction h with
 | nil=>exact fun h=>h
 | cons r _ ih=>exact fun h=>ih (h.stored r)
section
variable {X:Cx} {pins:List (Addr × Obj)} {σ:St} {H:Hp} {s:Shared}
theorem zlU (I:Inv X pins σ H s):∀ {vs:List V} {l:List (Int × V)} {its:List Value},zva X.K H vs l->Vals vs its->∃ us:List (Int × Value),KU us l/\its.length=us.length/\∀ i,i<its.length->zkT s.heap (its.getD i .none) (us.getD i (0,.none))
 | _,_,_,.nil,.nil=>⟨[],.nil,rfl,fun i hi=>absurd hi (Nat.not_lt_zero _)⟩
 | _,_,_,.cons (e:=e) h t,.cons r rs=>by
  obtain ⟨us,k,len,hp⟩:=zlU I t rs
  obtain ⟨a,rfl,ea⟩:=h
  cases r
  obtain ⟨ts,tv,tp,_⟩:=I.tuple (SqT.of ea)
  cases tv with
  | cons t1 tv =>
   cases tv with
   | @cons _ u2 _ _ t2 tv =>
    cases tv
    obtain ⟨t,rfl⟩:=t1
    obtain ⟨o,eo,oc,n,od⟩:=(show s.heap.IsTuple a _ from tp)
    refine ⟨(e.1,u2)::us,.cons t2 k,by simp[len],fun i hi=>?_⟩
    cases i with
    | zero=>exact ⟨a,o,n,t,rfl,eo,oc,od⟩
    | succ i =>
     have:=hp i (by simpa using hi)
     simpa using this
theorem zq0 (hc:X.calm=true):zbh X (.type "dict") (fun xs H Q=>∃ (p:Addr) (vs:List V) (l:List (Int × V)),xs=[.ref p]/\H p=some (.lst vs)/\zva X.K H vs l/\l.length<1000 /\
  ∀ (d:Addr),H d=none->Q (.ref d) (upd H d (zbi X.prog X.w d (zsz l)))):=by
 intro pins s σ H xs us Q I r h
 obtain ⟨p,vs,l,rfl,hp,hR,hl,q⟩:=h
 obtain ⟨u,rfl,rx⟩:=vals1 r
 cases rx
 obtain ⟨z,its,n,rv,e'⟩:=(show zai X.prog X.w H s.heap p (.lst vs) from I.hok p _ hp)
 obtain ⟨us,ku,len,pr⟩:=zlU I hR rv
 have kl:=ku.length
 have big:sysModules<s.heap.objs.size:=ydi (by decide) (show mainGlobals<s.heap.objs.size from (I.mod.glob.keeps I.bk).lt)
 have lo:(s.heap.objs.size == sysModules)=false:=beq_eq_false_iff_ne.mpr (Ne.symm (yda big))
 refine znb (I.ok.hd hc) e' len (by ac_rfl) pr fun h' tk kp hd=>?_
 exact ⟨.ref s.heap.objs.size,_,I.laid (o:=zbi X.prog X.w s.heap.objs.size (zsz l)) kp (ycz _) (zlr lo hd (ku.fold .nil)),rfl,q _ (I.hok.fresh (ycz _))⟩
end
section
variable {X:Cx} {o e f:Expr} {apos cpos:Pos} {td ty tx:TE}
theorem ziT (P:Program) (w:World) (ho:PE X o td) (he:PE X e ty) (hf:PE X f tx) (hb:attributeBase o "get" X.env (eval o X.env)=eval o X.env:=by rfl)
  (few:((backTo cpos (starEach [e,f] X.env)).all (fun x=>!x.1) && (backToKw cpos (keywordEach [] X.env)).all (fun x=>x.1.isSome)
   && decide (([e,f]:List Expr).length+([]:List Keyword).length+(if ([]:List Keyword).isEmpty then 0 else 1)<30))=true:=by rfl)
  (line:(apos.endLine == cpos.line)=true:=by rfl) (trees:backTo cpos (starEach [e,f] X.env)=[(false,eval e X.env),(false,eval f X.env)]:=by rfl) (hP:X.prog=P:=by rfl) (hw:X.w=w:=by rfl):PE X (.Call (.Attribute o "get" apos) [e,f] [] cpos) (zvk P w td ty tx):=by
 subst hP hw
 exact zrq ho he hf hb few line trees
end
section
variable {X:Cx} {e k:Expr} {te:TE} {p2 pos:Pos} {lo hi:Option Expr} {tl th:TO}
end
noncomputable def zcq (P:Program) (w:World) (d:Addr) (l:List (Int × Int)) (ep:Nat):HO:=.ext fun h=>(d == sysModules)=false/\∃ kvs,h.DictAt (intKind P w) d kvs ep/\KR kvs l
section
variable {X:Cx} {pins:List (Addr × Obj)} {σ:St} {H:Hp} {s:Shared} {o i e f value:Expr} {pos pos' apos cpos:Pos} {td ty tx tv:TE}
theorem zqo {P:Program} {w:World} {H:Hp} {h:Heap} {d:Addr} {kvs:List (Int × Value)} {l:List (Int × Int)} {ep:Nat} (lo:(d == sysModules)=false) (hd:h.DictAt (intKind P w) d kvs ep) (hk:KR kvs l):zai P w H h d (zcq P w d l ep) :=
 ⟨⟨lo,kvs,hd,hk⟩,(let ⟨o,_,e,_⟩:=hd;⟨o,e⟩),fun h1 h2 ⟨lo',kv,x,y⟩ e=>⟨lo',kv,Heap.DictAt.at' x e,y⟩⟩
def zwz (P:Program) (w:World):TE:=fun _ H Q=>∀ p ep,H p=none->Q (.ref p) (upd H p (zcq P w p [] ep))
theorem zuT:PE X (.Dict [] [] pos) (zwz X.prog X.w):=fun pins s σ H Q I h=>by
 have big:sysModules<s.heap.objs.size:=ydi (by decide) (show mainGlobals<s.heap.objs.size from (I.mod.glob.keeps I.bk).lt)
 obtain ⟨ep,hd⟩:=(Heap.DictOf.new (knd:=intKind X.prog X.w) s.heap).dictAt
 have new:zai X.prog X.w (upd H s.heap.objs.size (zcq X.prog X.w s.heap.objs.size [] ep)) (s.heap.push { cls:=.type "dict", data:=.dict #[] }) s.heap.objs.size (zcq X.prog X.w s.heap.objs.size [] ep) :=
  zqo (beq_eq_false_iff_ne.mpr (Ne.symm (yda big))) hd .nil
 exact wpAny_Dict_empty ⟨.ref s.heap.objs.size,_,I.laid (t':=s.toks) (fun _ _ q=>ydp _ q) (ycz _) new,rfl,h _ _ (I.hok.fresh (ycz _))⟩
def zxK (P:Program) (w:World) (td ty tx:TE):TE:=fun σ H Q=>td σ H fun x H1=>∃ (d:Addr) (l:List (Int × Int)) (ep:Nat),x=.ref d/\H1 d=some (zcq P w d l ep)/\ty σ H1 fun y H2=>tx σ H2 fun z H3=>∃ (k:Int),y=.int k/\H3 d=some (zcq P w d l ep)/\Q (((lkI l k).map V.int).getD z) H3
theorem zkN (ho:PE X o td) (he:PE X e ty) (hf:PE X f tx) (hb:attributeBase o "get" X.env (eval o X.env)=eval o X.env:=by rfl)
  (few:((backTo cpos (starEach [e,f] X.env)).all (fun x=>!x.1) && (backToKw cpos (keywordEach [] X.env)).all (fun x=>x.1.isSome)
   && decide (([e,f]:List Expr).length+([]:List Keyword).length+(if ([]:List Keyword).isEmpty then 0 else 1)<30))=true:=by rfl)
  (line:(apos.endLine == cpos.line)=true:=by rfl) (trees:backTo cpos (starEach [e,f] X.env)=[(false,eval e X.env),(false,eval f X.env)]:=by rfl):PE X (.Call (.Attribute o "get" apos) [e,f] [] cpos) (zxK X.prog X.w td ty tx):=by
 intro pins s σ H Q I h
 refine wpAny_Call_method hb few line PySem.F.plainAttrs_dict PySem.F.slot_dict_get PySem.F.type_dict_get (thn (ho pins s σ H _ I h) fun u s1 ⟨x,H1,I1,rx,d,l,ep,ex,hd,q1⟩=>?_)
 subst ex
 obtain rfl:u=Value.ref d:=rx
 obtain ⟨lo,kvs,hD,hk⟩:=(I1.hok d _ hd).1
 refine ⟨hD.dictOf.typeIs,hD.dictOf.mapOf.noDict,?_⟩
 rw[trees]
 refine Calls.callWith_builtin rfl (Calls.evalArgs_plain (Calls.spliced_cons (thn (he pins s1 σ H1 _ I1 q1) fun iv s2 ⟨y,H2,I2,ry,q2⟩ =>
  Calls.spliced_cons (thn (hf pins s2 σ H2 _ I2 q2) fun fv s3 ⟨z,H3,I3,rz,k,ek,hd3,q3⟩=>Calls.spliced_nil ?_))))
 subst ek
 obtain ⟨t,rfl⟩:=ry
 obtain ⟨lo3,kvs3,hD3,hk3⟩:=(I3.hok d _ hd3).1
 exact call_meetsIn PySem.F.slot_dict_get hD3.dictOf.typeIs PySem.F.entry_dict_get (PySem.F.args_dict_get_3 _ _ _) (meets_dict_get_default (intKind X.prog X.w) d isI lo3 fv) ⟨_,hD3.dictOf.mapOf,_,H3,I3.tok _,hk3.look rz,q3⟩
def zxy (P:Program) (w:World) (td ty tv:TE):TS:=fun D σ H=>tv σ H fun v H1=>td σ H1 fun x H2=>ty σ H2 fun y H3=>∃ (d:Addr) (l:List (Int × Int)) (k n:Int) (ep:Nat),x=.ref d/\y=.int k/\v=.int n/\H3 d=some (zcq P w d l ep)/\l.length<=1000/\∀ ep',D.nx σ (upd H3 d (zcq P w d (zal l k n) ep'))
theorem zv3 (ho:PE X o td) (hi:PE X i ty) (hv:PE X value tv) (hs:swapsWith value (some (.Subscript o i pos')) pos.line X.env=pure false:=by rfl):PS X (.Assign [.Subscript o i pos'] value pos) (zxy X.prog X.w td ty tv):=by
 intro pins s σ H D I h
 refine wpAny_Assign_Subscript (thn (hv pins s σ H _ I h) fun r s1 ⟨v,H1,I1,rv,q1⟩=>thn (ho pins s1 σ H1 _ I1 q1) fun u s2 ⟨x,H2,I2,rx,q2⟩=>thn (hi pins s2 σ H2 _ I2 q2) fun iv s3 ⟨y,H3,I3,ry,d,l,k,n,ep,ex,ey,ev,hd,hl,q3⟩=>?_) hs
 subst ex ey ev
 obtain rfl:u=Value.ref d:=rx
 obtain ⟨t,rfl⟩:=ry
 obtain ⟨t',rfl⟩:=rv
 obtain ⟨lo,kvs,hD,hk⟩:=(I3.hok d _ hd).1
 have sz:=sizeLine_eq
 refine wpAny_setItem_pairs (knd:=intKind X.prog X.w) (k:=k) (hsz:=by rw[hk.length];ac_rfl) isI hD.dictOf fun h' hD' hs'=>?_
 obtain ⟨ep',hA'⟩:=hD'.dictAt
 have he:∃ q,h'.get? d=some q:=let ⟨q,_,hq,_⟩:=hA';⟨q,hq⟩
 exact ⟨σ,_,I3.write (x:=d) (e:=d) (by rw[hd];exact True.intro) (.inl rfl) (fun b q hb z=>(hs'.2 b hb).trans z) he (zqo lo hA' hk.stored),q3 ep'⟩
end
section
variable {X:Cx}
end
noncomputable def Cx.zbq (X:Cx) (sc:Scope) (x y0 y1:Str) (ix:List Nat) (b:Blk):Cx where
 prog:=X.prog
 w:=X.w
 K:=X.K
 mg:=X.mg
 base:=X.base
 A:=X.A
 N:=x::y0::y1::ix.map fun i=>X.N.getD i x
 s₀:=b.s
 H₀:=b.H
 env:=compEnvC sc (zaH sc X.env) b.C X.env
 outer:=X.stack
 stack:=X.stack
 ex:=b.ex
 fn:=fun _=>false
 calm:=X.calm
 pn:=b.pn
 xe:=fun _ _=>False
structure zir (X:Cx) (sc:Scope) (x y0 y1:Str) (ix:List Nat):Prop where
 clos:closureFor sc X.env=pure (zaH sc X.env)
 cell:∀ y∈sc.names,y.2≠.cell
 kind:sc.kind=.function
 names:∀ y∈sc.names,y.2=.local->sc.names.lookup y.1=some .local
 var:sc.names.lookup x=some .local
 var2:sc.names.lookup y0=some .local
 var3:sc.names.lookup y1=some .local
 nd:(x::y0::y1::ix.map fun i=>X.N.getD i x).Nodup
 cap:zgz X sc x ix
 sub:zje X.env.cells (zaH sc X.env)
 has:zi4 (zaH sc X.env) (relabel sc X.env).names
section
variable {X:Cx} {pins:List (Addr × Obj)} {σ:St} {H:Hp} {s:Shared} {sc:Scope} {x y0 y1:Str} {ix:List Nat} {fp:List Addr}
theorem zs5 (I:Inv X pins σ H s) (O:zir X sc x y0 y1 ix) (hf:∀ b∈fp,zaL X pins H b) (hx:∀ b∈fp,∃ o,s.heap.get? b=some o):(X.zbq sc x y0 y1 ix ⟨s.heap.objs.size,s,H,X.pn++pins,fp⟩).Ok where
 mod:=I.ok.mod
 kind:=O.kind
 glob:=I.ok.glob
 blt:=I.ok.blt
 above:=ycz _
 inj:=fun y z c h1 h2=>I.ok.inj y z c (O.sub.get y c h1) (O.sub.get z c h2)
 has:=fun y h=>by
  have h':(relabel sc X.env).names.lookup y=some .cell\/(relabel sc X.env).names.lookup y=some .free:=h
  rcases h' with h' | h'
  ·exact O.has.get _ (PySem.mem_of_lookup h') (.inl rfl)
  ·exact O.has.get _ (PySem.mem_of_lookup h') (.inr rfl)
 cab:=fun _ _ h=>absurd (show false=true from h) Bool.false_ne_true
 hd:=I.ok.hd
 frames:=I.ok.frames
 stk:=.inl rfl
 exf:=fun b hb=>by
  obtain ⟨o,e⟩:=hx b hb
  exact ⟨yda (ydq e),fun y c h=>(hf b hb).2.2.2.2.1 y c (O.sub.get y c h)⟩
 bs:=I.bs
 bsz:=yde I.ok.bsz I.sz
 noex:=fun b o e hb=>by
  rcases (hf b hb).2.2.2.1 with z | z
  ·exact I.ok.noex b o e z
  ·exact absurd (ydd (ydq e) (yde I.ok.bsz z)) (ydf _)
 exfs:=fun b hb z=>(yak.mp (I.zcf b z)).elim (hf b hb).2.1 (hf b hb).2.2.1
 funs:=I.stack
 frf:=I.zkL
theorem zr3 {h₁:Heap} {m:Str->Option Value} {tk:Nat} (I:Inv X pins σ H s) (O:zir X sc x y0 y1 ix) (hf:∀ b∈fp,zaL X pins H b) (hx:∀ b∈fp,∃ o,s.heap.get? b=some o)
  (hn:h₁.Ns s.heap.objs.size m) (keep:∀ b o,s.heap.get? b=some o->h₁.get? b=some o) :
  Inv (X.zbq sc x y0 y1 ix ⟨s.heap.objs.size,s,H,X.pn++pins,fp⟩) [] (none::none::none::capts σ ix) H { s with heap:=h₁,toks:=tk }:=by
 refine ⟨zs5 I O hf hx,rfl,I.bare,Un.kept keep,⟨m,hn,fun i y v e1 e2 _=>?_⟩,fun y c h=>?_,I.hok.fresh (ycz _),fun y c h=>I.freeC y c (O.sub.get y c h),fun p hp=>?_,I.hok.kept keep,?_⟩
 ·cases i with
  | zero=>cases e2
  | succ j' =>
   cases j' with
   | zero=>cases e2
   | succ j'' =>
   cases j'' with
   | zero=>cases e2
   | succ j =>
   have e1':(ix.map fun i=>X.N.getD i x)[j]?=some y:=e1
   have e2':(capts σ ix)[j]?=some (some v):=e2
   unfold capts at e2'
   rw[yaj] at e1' e2'
   cases q:ix[j]? with
   | none=>rw[q] at e1';cases e1'
   | some i =>
    rw[q] at e1' e2'
    have e3:X.N.getD i x=y:=Option.some.inj e1'
    have e4:σ.getD i none=some v:=Option.some.inj e2'
    obtain ⟨c1,c2,c3⟩:=O.cap.get i (yae q)
    rw[e3] at c1 c2 c3
    have e5:σ[i]?=some (some v):=by
     rw[yad] at e4
     cases z:σ[i]? with
     | none=>rw[z] at e4;cases e4
     | some a=>rw[z] at e4;exact congrArg some e4
    have hl:i<X.N.length:=by
     rw[<-I.len]
     exact (yac.mp e5).1
    have e6:X.N[i]?=some y:=by
     rw[yad,yaa hl] at e3
     rw[yaa hl]
     exact congrArg some e3
    obtain ⟨m0,_,l0⟩:=I.loc
    have vis:Vis X.env.scope y:=by
     rcases c1 with z | z
     ·exact .inr (.inl z)
     ·exact .inr (.inr z)
    obtain ⟨u,ru,lu⟩:=l0 i y v e6 e5 vis
    refine ⟨u,ru,?_⟩
    rcases lu with ⟨k,_⟩ | ⟨_,c,hc,o,ho,hd⟩
    ·rcases c1 with z | z
     ·rw[z] at k;cases k
     ·rw[z] at k;cases k
    ·exact .inr ⟨c2,c,c3.trans hc,o,keep c o ho,hd⟩
 ·obtain ⟨v,o,ho,hd⟩:=I.cell y c (O.sub.get y c h)
  exact ⟨v,o,keep c o ho,hd⟩
 ·have hp':p∈X.pn++pins:=by
   rcases yaf.mp hp with z | z
   ·exact z
   ·cases z
  obtain ⟨e,n,ne,nf,d⟩:=I.pin p hp'
  exact ⟨keep _ _ e,n,yda (ydq e),fun z=>(yak.mp (I.zcf _ z)).elim ne nf,d⟩
 ·show (none::none::none::capts σ ix).length=(x::y0::y1::ix.map fun i=>X.N.getD i x).length
  simp[capts]
theorem zqs {pins':List (Addr × Obj)} {σ':St} {H':Hp} {s':Shared} (I:Inv X pins σ H s) (hf:∀ b∈fp,zaL X pins H b) (J:Inv (X.zbq sc x y0 y1 ix ⟨s.heap.objs.size,s,H,X.pn++pins,fp⟩) pins' σ' H' s'):Inv X pins σ H' s' :=
 I.call' J.os J.base J.hok J.bare fun b hb=>⟨(hf b hb).2.2.2.1,(hf b hb).2.1,(hf b hb).2.2.2.2.1,(hf b hb).2.2.2.2.2⟩
end
def zly (K0:W.Frag) (ix:List Nat) (tt:TT) (te:TE) (σ:St) (J:It) (l:Addr) (R:Hp->Prop) (W:Nat->Nat->List V->Hp->Prop):Prop :=
 ∀ i m xs H',W i m xs H'->H' l=some (.lst xs)/\((J.stop i H'/\R H')\/(J.go i H'/\xs.length<sizeLine/\∀ x H2,J.yld i H' x H2->∃ p v1 v2 v3,x=.ref p/\SqT K0 H2 p [v1,v2,v3] /\
  tt (some v1::some v2::some v3::capts σ ix) H2 fun b H3=>if b=true then te (some v1::some v2::some v3::capts σ ix) H3 fun v H4=>H4 l=some (.lst xs)/\∃ m',m'<m/\W (i+1) m' (xs++[v]) (upd H4 l (.lst (xs++[v]))) else ∃ m',m'<m/\W (i+1) m' xs H3))
def zpL (K0:W.Frag) (ix:List Nat) (wi:TI) (tt:TT) (te:TE):TE:=fun σ H Q=>wi σ H fun J H1=>∀ l,H1 l=none->∃ W:Nat->Nat->List V->Hp->Prop,(∃ m,W 0 m [] (upd H1 l (.lst [])))/\zly K0 ix tt te σ J l (Q (.ref l)) W
section
variable {X:Cx} {pins:List (Addr × Obj)} {σ:St} {H:Hp} {s:Shared} {sc:Scope} {x y0 y1:Str} {ix:List Nat} {fp:List Addr} {elt iter c:Expr} {te:TE} {tt:TT} {wi:TI} {px py0 py1 pt0 pos:Pos} {kt0:Nat}
theorem zj6 {it:Addr} {tn:Nat->Heap->Prop} {J:It} {use:Option (Value->Sem Unit)} {Q:Value->Shared->Prop} {E:Value->Shared->Prop} (O:zir X sc x y0 y1 ix) (htt:∀ b,PT (X.zbq sc x y0 y1 ix b) c tt) (hel:∀ b,PE (X.zbq sc x y0 y1 ix b) elt te) (hc:X.calm=true)
  (I:Inv X pins σ H s) (T:Turn X.prog X.w X.K (.Tuple [.Name x px,.Name y0 py0,.Name y1 py1] kt0 pt0) J fp it tn) (st:tn 0 s.heap) (hf:∀ b∈fp,zaL X pins H b) (R:Addr->Hp->Prop)
  (h:∀ l,H l=none->∃ W:Nat->Nat->List V->Hp->Prop,(∃ m,W 0 m [] (upd H l (.lst [])))/\zly X.K ix tt te σ J l (R l) W)
  (fin:∀ l C m s' H',Inv X pins σ H' s'->s'.heap.Ns C m->zaL X pins H' C->R l H'->compPost (model X.prog X.w) X.A E use Q (.ref l) C (.ok .next) s') :
  wpAny (model X.prog X.w) X.A (newList []) (fun acc s₃=>wpAny (model X.prog X.w) X.A (newFunctionEnv sc X.env.globals (zaH sc X.env) [] X.env.qual none .none (some X.env)) (fun cenv s₄ =>
   codeAny (model X.prog X.w) X.A (.compStart (.ListComp elt [⟨.Tuple [.Name x px,.Name y0 py0,.Name y1 py1] kt0 pt0,iter,[c],0⟩] sc pos) 0 (.ref it) acc { cenv with scope:=relabel sc X.env }) (compPost (model X.prog X.w) X.A E use Q acc cenv.locals) s₄) E s₃) E s:=by
 refine wpAny_newObj_type (wpAny_newFunctionEnv O.cell (by intro y hy;simp at hy) (fun h₁ hns hsb=>?_) O.kind)
 dsimp only at hns hsb ⊢
 have hl0:H s.heap.objs.size=none:=I.hok.fresh (ycz _)
 obtain ⟨W,⟨m0,w0⟩,tr⟩:=h s.heap.objs.size hl0
 have I3:Inv X pins σ (upd H s.heap.objs.size (.lst [])) { s with heap:=s.heap.push { cls:=.type "list", dict:=none,data:=.seq ([]:List Value).toArray } } :=
  I.laid (t':=s.toks) (fun b o e=>ydp _ e) (ycz _) ⟨ydb _,[],0,.nil,ydr _ rfl⟩
 have ofp:∀ b∈fp,∃ o,s.heap.get? b=some o:=fun b hb=>by
  obtain ⟨o,e,_⟩:=T.obj 0 _ st b hb
  exact ⟨o,e⟩
 generalize e3:s.heap.push { cls:=.type "list", dict:=none,data:=.seq ([]:List Value).toArray }=G at I3 hns hsb ⊢
 have ofp3:∀ b∈fp,∃ o,G.get? b=some o:=fun b hb=>by
  obtain ⟨o,e⟩:=ofp b hb
  exact ⟨o,by rw[<-e3];exact ydp _ e⟩
 have nl:∀ b∈fp,b≠s.heap.objs.size:=fun b hb=>by
  obtain ⟨o,e⟩:=ofp b hb
  exact yda (ydq e)
 have hf3:∀ b∈fp,zaL X pins (upd H s.heap.objs.size (.lst [])) b:=fun b hb=>⟨by rw[zr (nl b hb)];exact (hf b hb).1,(hf b hb).2⟩
 have keep3:∀ b o,G.get? b=some o->h₁.get? b=some o:=fun b o e=>hsb.extBut b o (yda (ydq e)) (ydp _ e)
 have stk:tn 0 h₁:=T.keep _ _ _ st fun b hb o e=>keep3 b o (by rw[<-e3];exact ydp _ e)
 have J0:=zr3 (tk:=s.toks+([]:List (Str × Value)).length) I3 O hf3 ofp3 hns keep3
 have stat:∀ {H':Hp},(∀ b∈fp,H' b=none)->∀ b∈fp,zaL (X.zbq sc x y0 y1 ix ⟨G.objs.size,{ s with heap:=G },upd H s.heap.objs.size (.lst []),X.pn++pins,fp⟩) [] H' b:=fun hn b hb=>by
  obtain ⟨o,e⟩:=ofp3 b hb
  refine ⟨hn b hb,yda (ydq e),fun z=>(yak.mp (I3.zcf _ z)).elim (hf b hb).2.1 (hf b hb).2.2.1,.inl hb,fun y c q=>(hf b hb).2.2.2.2.1 y c (O.sub.get y c q),fun p hp=>?_⟩
  have hp':p∈X.pn++pins:=by
   rcases yaf.mp hp with z | z
   ·exact z
   ·cases z
  exact (hf b hb).2.2.2.2.2 p hp'
 have loop:∀ s4:Shared,s4={ s with heap:=h₁,toks:=s.toks+([]:List (Str × Value)).length } ->
   codeAny (model X.prog X.w) X.A (.compLoop (.ListComp elt [⟨.Tuple [.Name x px,.Name y0 py0,.Name y1 py1] kt0 pt0,iter,[c],0⟩] sc pos) 0 (.ref it) (.ref s.heap.objs.size) (compEnvC sc (zaH sc X.env) G.objs.size X.env))
    (compPost (model X.prog X.w) X.A E use Q (.ref s.heap.objs.size) G.objs.size) s4:=by
  rintro s4 rfl
  refine zgF (fun n s'=>∃ i xs H' z z' z'',Inv (X.zbq sc x y0 y1 ix ⟨G.objs.size,{ s with heap:=G },upd H s.heap.objs.size (.lst []),X.pn++pins,fp⟩) [] (z::z'::z''::capts σ ix) H' s'/\tn i s'.heap/\(∀ b∈fp,H' b=none)/\W i n xs H') ?_ m0
   ⟨0,[],_,none,none,none,J0,stk,fun b hb=>(hf3 b hb).1,w0⟩
  rintro n s5 ⟨i,xs,H5,z,z',z'',I5,st5,fr5,w5⟩
  obtain ⟨hl5,h5⟩:=tr i n xs H5 w5
  rcases h5 with ⟨stop,r5⟩ | ⟨go,hz,step⟩
  ·refine thn (T.done (X.zbq sc x y0 y1 ix ⟨G.objs.size,{ s with heap:=G },upd H s.heap.objs.size (.lst []),X.pn++pins,fp⟩) rfl rfl rfl hc i [] s5 _ H5 _ I5 (stat fr5) st5 stop) fun r s6 ⟨hr,I6⟩=>?_
   subst hr
   obtain ⟨m6,hn6,_⟩:=I6.loc
   refine fin _ _ m6 s6 H5 (zqs I3 hf3 I6) hn6 ?_ r5
   exact I3.zm1 (ycz _) I6.free
  ·refine thn (T.item (X.zbq sc x y0 y1 ix ⟨G.objs.size,{ s with heap:=G },upd H s.heap.objs.size (.lst []),X.pn++pins,fp⟩) rfl rfl rfl hc i [] s5 _ H5 _ I5 (stat fr5) st5 go) fun r s6 ⟨u,hr,h6⟩=>?_
   subst hr
   refine thn h6 fun _ s7 ⟨y,H7,I7,r7,y7,st7,fr7⟩=>?_
   have I7':=I7.pinned (stat fr7) (T.obj _ _ st7)
   have lx:(relabel sc X.env).names.lookup x=some .local:=lookup_relabel_local O.var
   have ly:(relabel sc X.env).names.lookup y0=some .local:=lookup_relabel_local O.var2
   have lz:(relabel sc X.env).names.lookup y1=some .local:=lookup_relabel_local O.var3
   obtain ⟨tp,v1,v2,v3,ey,hT,step⟩:=step y H7 y7
   refine thn ((zch hc (zH (zC (i:=0) O.nd rfl (Or.inl lx) (Or.inr lx)) (zH (zC (i:=1) O.nd rfl (Or.inl ly) (Or.inr ly)) (zH (zC (i:=2) O.nd rfl (Or.inl lz) (Or.inr lz)) zbz))):PG (X.zbq sc x y0 y1 ix ⟨G.objs.size,{ s with heap:=G },upd H s.heap.objs.size (.lst []),X.pn++pins,fp⟩) (.Tuple [.Name x px,.Name y0 py0,.Name y1 py1] kt0 pt0) (zu4 X.K 3 (zkA (zb9 0) (zkA (zb9 1) (zkA (zb9 2) zub))))) _ s7 _ H7 y u (fun σ' H'=>σ'=some v1::some v2::some v3::capts σ ix/\H'=H7) I7' r7 ⟨tp,[v1,v2,v3],ey,hT,rfl,_,_,rfl,_,_,rfl,_,_,rfl,rfl,rfl,rfl⟩) fun _ s8 ⟨σ8,H8,I8,e8,e8'⟩=>?_
   subst e8 e8'
   refine thn (htt _ _ s8 _ H8 _ I8 step) fun b s9 ⟨H9,I9,q9⟩=>?_
   have kp:∀ {σ0:St} {H0:Hp} {s0:Shared},Inv (X.zbq sc x y0 y1 ix ⟨G.objs.size,{ s with heap:=G },upd H s.heap.objs.size (.lst []),X.pn++pins,fp⟩) ([]++zg0 fp s7.heap) σ0 H0 s0->tn (i+1) s0.heap/\∀ b∈fp,H0 b=none:=fun {σ0 H0 s0} I0=>by
    refine ⟨T.keep _ _ _ st7 fun b hb o e=>(I0.pin (b,o) (yag _ (yag _ (za1 hb e)))).1,fun b hb=>?_⟩
    obtain ⟨o,e,d⟩:=T.obj _ _ st7 b hb
    exact (I0.pin (b,o) (yag _ (yag _ (za1 hb e)))).2.1
   cases b with
   | false =>
    rw[if_neg Bool.false_ne_true] at q9 ⊢
    obtain ⟨m',hm,w9⟩:=q9
    exact ⟨m',hm,i+1,xs,_,some v1,some v2,some v3,I9.unpinned,(kp I9).1,(kp I9).2,w9⟩
   | true =>
    rw[if_pos rfl] at q9 ⊢
    refine thn (hel _ _ s9 _ H9 _ I9 q9) fun v9 s10 ⟨v,H10,I10,r10,hl10,m',hm,w10⟩=>?_
    refine thn (za7 _ s10 _ H10 (.ref s.heap.objs.size) [v] (.ref s.heap.objs.size) [v9] (fun _ H'=>H'=upd H10 s.heap.objs.size (.lst (xs++[v]))) I10 rfl (.cons r10 .nil) ⟨_,xs,v,rfl,rfl,hl10,hz,rfl⟩) fun _ s11 ⟨_,H11,I11,_,e11⟩=>?_
    subst e11
    exact ⟨m',hm,i+1,xs++[v],_,some v1,some v2,some v3,I11.unpinned,(kp I11).1,(kp I11).2,w10⟩
 exact codeAny_compStart_list (loop _ rfl) (T.self _ 0 _ _ _ stk (loop _ rfl))
theorem zi3 (O:zir X sc x y0 y1 ix) (hi:PI X (.Tuple [.Name x px,.Name y0 py0,.Name y1 py1] kt0 pt0) iter wi) (htt:∀ b,PT (X.zbq sc x y0 y1 ix b) c tt) (hel:∀ b,PE (X.zbq sc x y0 y1 ix b) elt te) (hc:X.calm=true:=by rfl) (hs:∀ v,foldedSetIterable iter X.env v=pure v:=by intro _;rfl) :
  PE X (.ListComp elt [⟨.Tuple [.Name x px,.Name y0 py0,.Name y1 py1] kt0 pt0,iter,[c],0⟩] sc pos) (zpL X.K ix wi tt te):=by
 intro pins s σ H Q I h
 rw[eval_ListComp]
 refine wpAny_comprehension_free (use:=none) rfl hs O.clos O.kind O.names (thn (hi pins s σ H _ I h) fun xv s1 h1=>thn h1 fun itv s2 h2=>?_)
 obtain ⟨it,fp,tn,J,H2,e,I2,T,st2,f2,hq⟩:=h2
 subst e
 refine zj6 O htt hel hc I2 T st2 f2 (fun l H'=>Q (.ref l) H') hq ?_
 intro l C m s' H' I' hn hf r
 refine ⟨m,hn,fun h' hb=>⟨.ref l,H',?_,rfl,r⟩⟩
 exact I'.turned (t':=s'.toks) (fun b o hne e=>hb.extBut b o hne e) hf.1 hf.2.1 hf.2.2.2.1 hf.2.2.2.2.1 hf.2.2.2.2.2
theorem zl4 {y:Str} {i:Nat} {py spos:Pos} (hN:X.N.Nodup) (hiy:X.N[i]?=some y) (hy:X.env.scope.names.lookup y=some .local) (O:zir X sc x y0 y1 ix) (hi:PI X (.Tuple [.Name x px,.Name y0 py0,.Name y1 py1] kt0 pt0) iter wi) (htt:∀ b,PT (X.zbq sc x y0 y1 ix b) c tt) (hel:∀ b,PE (X.zbq sc x y0 y1 ix b) elt te)
  (hc:X.calm=true:=by rfl) (hs:∀ v,foldedSetIterable iter X.env v=pure v:=by intro _;rfl) (hsw:swapsWith (.ListComp elt [⟨.Tuple [.Name x px,.Name y0 py0,.Name y1 py1] kt0 pt0,iter,[c],0⟩] sc pos) (some (.Name y py)) spos.line X.env=pure true:=by rfl) :
  PS X (.Assign [.Name y py] (.ListComp elt [⟨.Tuple [.Name x px,.Name y0 py0,.Name y1 py1] kt0 pt0,iter,[c],0⟩] sc pos) spos) (zo8 (zpL X.K ix wi tt te) (zb9 i)):=by
 intro pins s σ H D I h
 rw[exec_Assign_Name_used _ _ _ _ hsw]
 refine wpAny_bind (wpAny_standAt (wpAny_bind ?_))
 show wpAny _ X.A (do let _ <-comprehension (.ListComp elt [⟨.Tuple [.Name x px,.Name y0 py0,.Name y1 py1] kt0 pt0,iter,[c],0⟩] sc pos) sc X.env _ (newList []) false (eval iter X.env) (some (assign (.Name y py) X.env))) _ _ s
 refine wpAny_bind (wpAny_mono (wpAny_comprehension_free (use:=some (assign (.Name y py) X.env)) (Q:=fun _ s'=>SP X pins D .next s') rfl hs O.clos O.kind O.names
  (thn (hi pins s σ H _ I h) fun xv s1 h1=>thn h1 fun itv s2 h2=>?_)) (fun _ s' hq=>wpAny_pure (wpAny_pure hq)) fun _ _ e=>e)
 obtain ⟨it,fp,tn,J,H2,e,I2,T,st2,f2,hq⟩:=h2
 subst e
 refine zj6 O htt hel hc I2 T st2 f2 (fun l H'=>D.nx (σ.set i (some (.ref l))) H') hq ?_
 intro l C m s' H' I' hn hf r
 obtain ⟨o,es,ep,ho,hd,hr⟩:=id hn
 have Ip:=I'.addpin ho hf.1 hf.2.1 hf.2.2.1 (by intro v z;rw[hd] at z;cases z)
 refine thn ((zC (i:=i) hN hiy (Or.inl hy) (Or.inr hy):PG X (.Name y py) (zb9 i)) _ s' σ H' (.ref l) (.ref l) (fun σ' H''=>σ'=σ.set i (some (.ref l))/\H''=H') Ip rfl ⟨rfl,rfl⟩) fun _ s'' ⟨σ'',H'',I'',e1,e2⟩=>?_
 subst e1 e2
 have pc:=(I''.pin (C,o) (yag _ (yag _ yas))).1
 refine ⟨m,⟨o,es,ep,pc,hd,hr⟩,fun h' hb=>⟨_,_,?_,r⟩⟩
 exact I''.unpinned.turned (t':=s''.toks) (fun b o hne e=>hb.extBut b o hne e) hf.1 hf.2.1 hf.2.2.2.1 hf.2.2.2.2.1 hf.2.2.2.2.2
end
theorem zfh {α:Type} {K0:W.Frag} {J:It} {ix:List Nat} {tt:TT} {te:TE} {σ:St} {l:Addr} {xs:List V} {H:Hp} {R:Hp->Prop} (Y:zgy J H xs) (hl:H l=none) (hz:xs.length<=sizeLine) (es:List α) (len:es.length=xs.length)
  (pr:α->V × V × V) (items:∀ (i:Nat) x e,xs[i]?=some x->es[i]?=some e->∃ p,x=.ref p/\H p=some (.tup [(pr e).1,(pr e).2.1,(pr e).2.2]))
  (f:α->Bool) (P:Hp->V->α->Prop) (mono:∀ v e H1 H2,Same H1 H2->P H1 v e->P H2 v e) (put:∀ v e H1 ys zs,H1 l=some (.lst ys)->P H1 v e->P (upd H1 l (.lst zs)) v e)
  (ht:∀ e H' Q',e∈es->Same H H'->(∀ H2,Same H' H2->Q' (f e) H2)->tt (some (pr e).1::some (pr e).2.1::some (pr e).2.2::capts σ ix) H' Q')
  (he:∀ e H' Q',e∈es->f e=true->Same H H'->(∀ v H2,Same H' H2->P H2 v e->Q' v H2)->te (some (pr e).1::some (pr e).2.1::some (pr e).2.2::capts σ ix) H' Q')
  (fin:∀ ys H',Same H H'->H' l=some (.lst ys)->LL (P H') ys (es.filter f)->R H') :
  ∃ W:Nat->Nat->List V->Hp->Prop,(∃ m,W 0 m [] (upd H l (.lst [])))/\zly K0 ix tt te σ J l R W:=by
 refine ⟨fun i m ys H'=>m=xs.length-i/\i<=xs.length/\LL (P H') ys ((es.take i).filter f)/\Same H H'/\H' l=some (.lst ys),⟨xs.length,by simp,ydb _,by simp;exact .nil,ze hl _,zg⟩,?_⟩
 rintro i m ys H' ⟨rfl,hi,hy,sH,hL⟩
 refine ⟨hL,?_⟩
 by_cases hlt:i<xs.length
 ·have yl:ys.length<=i:=by
   rw[hy.length]
   exact yde (yaq _ _) (by rw[ybe];ac_rfl)
  have eP:es[i]?=some (es[i]'(by ac_rfl)):=yaa (by ac_rfl)
  generalize es[i]'(by ac_rfl)=e at eP
  have em:e∈es:=yae eP
  have tk:es.take (i+1)=es.take i++[e]:=by rw[ybb,eP];rfl
  refine .inr ⟨Y.go i H' sH hlt,by ac_rfl,fun x H2 y=>?_⟩
  obtain ⟨rfl,e2⟩:=Y.yld i H' x H2 sH y
  obtain ⟨p,rfl,hp⟩:=items i x e e2 eP
  refine ⟨p,_,_,_,rfl,SqT.of (sH _ _ hp),?_⟩
  refine ht e _ _ em sH fun H3 s3=>?_
  cases b:f e with
  | true =>
   rw[if_pos rfl]
   refine he e _ _ em b (sH.trans s3) fun v H4 s4 pv=>?_
   have hL4:=s4 _ _ (s3 _ _ hL)
   refine ⟨hL4,xs.length-(i+1),by ac_rfl,rfl,hlt,?_,zN (sH.trans (s3.trans s4)) hl,zg⟩
   rw[tk,ybd,yan b]
   exact ((hy.imp fun v e q=>put v e H4 ys _ hL4 (mono v e _ _ (s3.trans s4) q)).push (put v e H4 ys _ hL4 pv))
  | false =>
   rw[if_neg Bool.false_ne_true]
   refine ⟨xs.length-(i+1),by ac_rfl,rfl,hlt,?_,sH.trans s3,s3 _ _ hL⟩
   rw[tk,ybd,yap (by rw[b];decide)]
   simpa using hy.imp fun v e q=>mono v e _ _ s3 q
 ·rw[yaz (by ac_rfl)] at hy
  exact .inl ⟨Y.stop i H' sH (by ac_rfl),fin ys H' sH hL hy⟩
section
variable {prog:Program} {w:World} {A:Around} {E:Value->Shared->Prop} {s:Shared}
end
def zlm (K0:W.Frag) (ix:List Nat) (tt:TT) (te:TE) (σ:St) (J:It) (l:Addr) (R:Hp->Prop) (W:Nat->Nat->List V->Hp->Prop):Prop :=
 ∀ i m xs H',W i m xs H'->H' l=some (.lst xs)/\((J.stop i H'/\R H')\/(J.go i H'/\xs.length<sizeLine/\∀ x H2,J.yld i H' x H2->∃ p v1 v2,x=.ref p/\SqT K0 H2 p [v1,v2] /\
  tt (some v1::some v2::capts σ ix) H2 fun b H3=>if b=true then te (some v1::some v2::capts σ ix) H3 fun v H4=>H4 l=some (.lst xs)/\∃ m',m'<m/\W (i+1) m' (xs++[v]) (upd H4 l (.lst (xs++[v]))) else ∃ m',m'<m/\W (i+1) m' xs H3))
def zuj (K0:W.Frag) (ix:List Nat) (wi:TI) (tt:TT) (te:TE):TE:=fun σ H Q=>wi σ H fun J H1=>∀ l,H1 l=none->∃ W:Nat->Nat->List V->Hp->Prop,(∃ m,W 0 m [] (upd H1 l (.lst [])))/\zlm K0 ix tt te σ J l (Q (.ref l)) W
section
variable {X:Cx} {pins:List (Addr × Obj)} {σ:St} {H:Hp} {s:Shared} {sc:Scope} {x y0:Str} {ix:List Nat} {fp:List Addr} {elt iter c:Expr} {te:TE} {tt:TT} {wi:TI} {px py0 pt0 pos:Pos} {kt0:Nat}
theorem zo1 {it:Addr} {tn:Nat->Heap->Prop} {J:It} {use:Option (Value->Sem Unit)} {Q:Value->Shared->Prop} {E:Value->Shared->Prop} (O:zkP X sc x y0 ix) (htt:∀ b,PT (X.zbZ sc x y0 ix b) c tt) (hel:∀ b,PE (X.zbZ sc x y0 ix b) elt te) (hc:X.calm=true)
  (I:Inv X pins σ H s) (T:Turn X.prog X.w X.K (.Tuple [.Name x px,.Name y0 py0] kt0 pt0) J fp it tn) (st:tn 0 s.heap) (hf:∀ b∈fp,zaL X pins H b) (R:Addr->Hp->Prop)
  (h:∀ l,H l=none->∃ W:Nat->Nat->List V->Hp->Prop,(∃ m,W 0 m [] (upd H l (.lst [])))/\zlm X.K ix tt te σ J l (R l) W)
  (fin:∀ l C m s' H',Inv X pins σ H' s'->s'.heap.Ns C m->zaL X pins H' C->R l H'->compPost (model X.prog X.w) X.A E use Q (.ref l) C (.ok .next) s') :
  wpAny (model X.prog X.w) X.A (newList []) (fun acc s₃=>wpAny (model X.prog X.w) X.A (newFunctionEnv sc X.env.globals (zaH sc X.env) [] X.env.qual none .none (some X.env)) (fun cenv s₄ =>
   codeAny (model X.prog X.w) X.A (.compStart (.ListComp elt [⟨.Tuple [.Name x px,.Name y0 py0] kt0 pt0,iter,[c],0⟩] sc pos) 0 (.ref it) acc { cenv with scope:=relabel sc X.env }) (compPost (model X.prog X.w) X.A E use Q acc cenv.locals) s₄) E s₃) E s:=by
 refine wpAny_newObj_type (wpAny_newFunctionEnv O.cell (by intro y hy;simp at hy) (fun h₁ hns hsb=>?_) O.kind)
 dsimp only at hns hsb ⊢
 have hl0:H s.heap.objs.size=none:=I.hok.fresh (ycz _)
 obtain ⟨W,⟨m0,w0⟩,tr⟩:=h s.heap.objs.size hl0
 have I3:Inv X pins σ (upd H s.heap.objs.size (.lst [])) { s with heap:=s.heap.push { cls:=.type "list", dict:=none,data:=.seq ([]:List Value).toArray } } :=
  I.laid (t':=s.toks) (fun b o e=>ydp _ e) (ycz _) ⟨ydb _,[],0,.nil,ydr _ rfl⟩
 have ofp:∀ b∈fp,∃ o,s.heap.get? b=some o:=fun b hb=>by
  obtain ⟨o,e,_⟩:=T.obj 0 _ st b hb
  exact ⟨o,e⟩
 generalize e3:s.heap.push { cls:=.type "list", dict:=none,data:=.seq ([]:List Value).toArray }=G at I3 hns hsb ⊢
 have ofp3:∀ b∈fp,∃ o,G.get? b=some o:=fun b hb=>by
  obtain ⟨o,e⟩:=ofp b hb
  exact ⟨o,by rw[<-e3];exact ydp _ e⟩
 have nl:∀ b∈fp,b≠s.heap.objs.size:=fun b hb=>by
  obtain ⟨o,e⟩:=ofp b hb
  exact yda (ydq e)
 have hf3:∀ b∈fp,zaL X pins (upd H s.heap.objs.size (.lst [])) b:=fun b hb=>⟨by rw[zr (nl b hb)];exact (hf b hb).1,(hf b hb).2⟩
 have keep3:∀ b o,G.get? b=some o->h₁.get? b=some o:=fun b o e=>hsb.extBut b o (yda (ydq e)) (ydp _ e)
 have stk:tn 0 h₁:=T.keep _ _ _ st fun b hb o e=>keep3 b o (by rw[<-e3];exact ydp _ e)
 have J0:=zr2 (tk:=s.toks+([]:List (Str × Value)).length) I3 O hf3 ofp3 hns keep3
 have stat:∀ {H':Hp},(∀ b∈fp,H' b=none)->∀ b∈fp,zaL (X.zbZ sc x y0 ix ⟨G.objs.size,{ s with heap:=G },upd H s.heap.objs.size (.lst []),X.pn++pins,fp⟩) [] H' b:=fun hn b hb=>by
  obtain ⟨o,e⟩:=ofp3 b hb
  refine ⟨hn b hb,yda (ydq e),fun z=>(yak.mp (I3.zcf _ z)).elim (hf b hb).2.1 (hf b hb).2.2.1,.inl hb,fun y c q=>(hf b hb).2.2.2.2.1 y c (O.sub.get y c q),fun p hp=>?_⟩
  have hp':p∈X.pn++pins:=by
   rcases yaf.mp hp with z | z
   ·exact z
   ·cases z
  exact (hf b hb).2.2.2.2.2 p hp'
 have loop:∀ s4:Shared,s4={ s with heap:=h₁,toks:=s.toks+([]:List (Str × Value)).length } ->
   codeAny (model X.prog X.w) X.A (.compLoop (.ListComp elt [⟨.Tuple [.Name x px,.Name y0 py0] kt0 pt0,iter,[c],0⟩] sc pos) 0 (.ref it) (.ref s.heap.objs.size) (compEnvC sc (zaH sc X.env) G.objs.size X.env))
    (compPost (model X.prog X.w) X.A E use Q (.ref s.heap.objs.size) G.objs.size) s4:=by
  rintro s4 rfl
  refine zgF (fun n s'=>∃ i xs H' z z',Inv (X.zbZ sc x y0 ix ⟨G.objs.size,{ s with heap:=G },upd H s.heap.objs.size (.lst []),X.pn++pins,fp⟩) [] (z::z'::capts σ ix) H' s'/\tn i s'.heap/\(∀ b∈fp,H' b=none)/\W i n xs H') ?_ m0
   ⟨0,[],_,none,none,J0,stk,fun b hb=>(hf3 b hb).1,w0⟩
  rintro n s5 ⟨i,xs,H5,z,z',I5,st5,fr5,w5⟩
  obtain ⟨hl5,h5⟩:=tr i n xs H5 w5
  rcases h5 with ⟨stop,r5⟩ | ⟨go,hz,step⟩
  ·refine thn (T.done (X.zbZ sc x y0 ix ⟨G.objs.size,{ s with heap:=G },upd H s.heap.objs.size (.lst []),X.pn++pins,fp⟩) rfl rfl rfl hc i [] s5 _ H5 _ I5 (stat fr5) st5 stop) fun r s6 ⟨hr,I6⟩=>?_
   subst hr
   obtain ⟨m6,hn6,_⟩:=I6.loc
   refine fin _ _ m6 s6 H5 (zqt I3 hf3 I6) hn6 ?_ r5
   exact I3.zm1 (ycz _) I6.free
  ·refine thn (T.item (X.zbZ sc x y0 ix ⟨G.objs.size,{ s with heap:=G },upd H s.heap.objs.size (.lst []),X.pn++pins,fp⟩) rfl rfl rfl hc i [] s5 _ H5 _ I5 (stat fr5) st5 go) fun r s6 ⟨u,hr,h6⟩=>?_
   subst hr
   refine thn h6 fun _ s7 ⟨y,H7,I7,r7,y7,st7,fr7⟩=>?_
   have I7':=I7.pinned (stat fr7) (T.obj _ _ st7)
   have lx:(relabel sc X.env).names.lookup x=some .local:=lookup_relabel_local O.var
   have ly:(relabel sc X.env).names.lookup y0=some .local:=lookup_relabel_local O.var2
   obtain ⟨tp,v1,v2,ey,hT,step⟩:=step y H7 y7
   refine thn ((zch hc (zH (zC (i:=0) O.nd rfl (Or.inl lx) (Or.inr lx)) (zH (zC (i:=1) O.nd rfl (Or.inl ly) (Or.inr ly)) zbz)):PG (X.zbZ sc x y0 ix ⟨G.objs.size,{ s with heap:=G },upd H s.heap.objs.size (.lst []),X.pn++pins,fp⟩) (.Tuple [.Name x px,.Name y0 py0] kt0 pt0) (zu4 X.K 2 (zkA (zb9 0) (zkA (zb9 1) zub)))) _ s7 _ H7 y u (fun σ' H'=>σ'=some v1::some v2::capts σ ix/\H'=H7) I7' r7 ⟨tp,[v1,v2],ey,hT,rfl,_,_,rfl,_,_,rfl,rfl,rfl,rfl⟩) fun _ s8 ⟨σ8,H8,I8,e8,e8'⟩=>?_
   subst e8 e8'
   refine thn (htt _ _ s8 _ H8 _ I8 step) fun b s9 ⟨H9,I9,q9⟩=>?_
   have kp:∀ {σ0:St} {H0:Hp} {s0:Shared},Inv (X.zbZ sc x y0 ix ⟨G.objs.size,{ s with heap:=G },upd H s.heap.objs.size (.lst []),X.pn++pins,fp⟩) ([]++zg0 fp s7.heap) σ0 H0 s0->tn (i+1) s0.heap/\∀ b∈fp,H0 b=none:=fun {σ0 H0 s0} I0=>by
    refine ⟨T.keep _ _ _ st7 fun b hb o e=>(I0.pin (b,o) (yag _ (yag _ (za1 hb e)))).1,fun b hb=>?_⟩
    obtain ⟨o,e,d⟩:=T.obj _ _ st7 b hb
    exact (I0.pin (b,o) (yag _ (yag _ (za1 hb e)))).2.1
   cases b with
   | false =>
    rw[if_neg Bool.false_ne_true] at q9 ⊢
    obtain ⟨m',hm,w9⟩:=q9
    exact ⟨m',hm,i+1,xs,_,some v1,some v2,I9.unpinned,(kp I9).1,(kp I9).2,w9⟩
   | true =>
    rw[if_pos rfl] at q9 ⊢
    refine thn (hel _ _ s9 _ H9 _ I9 q9) fun v9 s10 ⟨v,H10,I10,r10,hl10,m',hm,w10⟩=>?_
    refine thn (za7 _ s10 _ H10 (.ref s.heap.objs.size) [v] (.ref s.heap.objs.size) [v9] (fun _ H'=>H'=upd H10 s.heap.objs.size (.lst (xs++[v]))) I10 rfl (.cons r10 .nil) ⟨_,xs,v,rfl,rfl,hl10,hz,rfl⟩) fun _ s11 ⟨_,H11,I11,_,e11⟩=>?_
    subst e11
    exact ⟨m',hm,i+1,xs++[v],_,some v1,some v2,I11.unpinned,(kp I11).1,(kp I11).2,w10⟩
 exact codeAny_compStart_list (loop _ rfl) (T.self _ 0 _ _ _ stk (loop _ rfl))
theorem zsl (O:zkP X sc x y0 ix) (hi:PI X (.Tuple [.Name x px,.Name y0 py0] kt0 pt0) iter wi) (htt:∀ b,PT (X.zbZ sc x y0 ix b) c tt) (hel:∀ b,PE (X.zbZ sc x y0 ix b) elt te) (hc:X.calm=true:=by rfl) (hs:∀ v,foldedSetIterable iter X.env v=pure v:=by intro _;rfl) :
  PE X (.ListComp elt [⟨.Tuple [.Name x px,.Name y0 py0] kt0 pt0,iter,[c],0⟩] sc pos) (zuj X.K ix wi tt te):=by
 intro pins s σ H Q I h
 rw[eval_ListComp]
 refine wpAny_comprehension_free (use:=none) rfl hs O.clos O.kind O.names (thn (hi pins s σ H _ I h) fun xv s1 h1=>thn h1 fun itv s2 h2=>?_)
 obtain ⟨it,fp,tn,J,H2,e,I2,T,st2,f2,hq⟩:=h2
 subst e
 refine zo1 O htt hel hc I2 T st2 f2 (fun l H'=>Q (.ref l) H') hq ?_
 intro l C m s' H' I' hn hf r
 refine ⟨m,hn,fun h' hb=>⟨.ref l,H',?_,rfl,r⟩⟩
 exact I'.turned (t':=s'.toks) (fun b o hne e=>hb.extBut b o hne e) hf.1 hf.2.1 hf.2.2.2.1 hf.2.2.2.2.1 hf.2.2.2.2.2
end
theorem zt0 {α:Type} {K0:W.Frag} {J:It} {ix:List Nat} {tt:TT} {te:TE} {σ:St} {l:Addr} {xs:List V} {H:Hp} {R:Hp->Prop} (Y:zgy J H xs) (hl:H l=none) (hz:xs.length<=sizeLine) (es:List α) (len:es.length=xs.length)
  (pr:α->V × V) (items:∀ (i:Nat) x e,xs[i]?=some x->es[i]?=some e->∃ p,x=.ref p/\H p=some (.tup [(pr e).1,(pr e).2]))
  (f:α->Bool) (P:Hp->V->α->Prop) (mono:∀ v e H1 H2,Same H1 H2->P H1 v e->P H2 v e) (put:∀ v e H1 ys zs,H1 l=some (.lst ys)->P H1 v e->P (upd H1 l (.lst zs)) v e)
  (ht:∀ e H' Q',e∈es->Same H H'->(∀ H2,Same H' H2->Q' (f e) H2)->tt (some (pr e).1::some (pr e).2::capts σ ix) H' Q')
  (he:∀ e H' Q',e∈es->f e=true->Same H H'->(∀ v H2,Same H' H2->P H2 v e->Q' v H2)->te (some (pr e).1::some (pr e).2::capts σ ix) H' Q')
  (fin:∀ ys H',Same H H'->H' l=some (.lst ys)->LL (P H') ys (es.filter f)->R H') :
  ∃ W:Nat->Nat->List V->Hp->Prop,(∃ m,W 0 m [] (upd H l (.lst [])))/\zlm K0 ix tt te σ J l R W:=by
 refine ⟨fun i m ys H'=>m=xs.length-i/\i<=xs.length/\LL (P H') ys ((es.take i).filter f)/\Same H H'/\H' l=some (.lst ys),⟨xs.length,by simp,ydb _,by simp;exact .nil,ze hl _,zg⟩,?_⟩
 rintro i m ys H' ⟨rfl,hi,hy,sH,hL⟩
 refine ⟨hL,?_⟩
 by_cases hlt:i<xs.length
 ·have yl:ys.length<=i:=by
   rw[hy.length]
   exact yde (yaq _ _) (by rw[ybe];ac_rfl)
  have eP:es[i]?=some (es[i]'(by ac_rfl)):=yaa (by ac_rfl)
  generalize es[i]'(by ac_rfl)=e at eP
  have em:e∈es:=yae eP
  have tk:es.take (i+1)=es.take i++[e]:=by rw[ybb,eP];rfl
  refine .inr ⟨Y.go i H' sH hlt,by ac_rfl,fun x H2 y=>?_⟩
  obtain ⟨rfl,e2⟩:=Y.yld i H' x H2 sH y
  obtain ⟨p,rfl,hp⟩:=items i x e e2 eP
  refine ⟨p,_,_,rfl,SqT.of (sH _ _ hp),?_⟩
  refine ht e _ _ em sH fun H3 s3=>?_
  cases b:f e with
  | true =>
   rw[if_pos rfl]
   refine he e _ _ em b (sH.trans s3) fun v H4 s4 pv=>?_
   have hL4:=s4 _ _ (s3 _ _ hL)
   refine ⟨hL4,xs.length-(i+1),by ac_rfl,rfl,hlt,?_,zN (sH.trans (s3.trans s4)) hl,zg⟩
   rw[tk,ybd,yan b]
   exact ((hy.imp fun v e q=>put v e H4 ys _ hL4 (mono v e _ _ (s3.trans s4) q)).push (put v e H4 ys _ hL4 pv))
  | false =>
   rw[if_neg Bool.false_ne_true]
   refine ⟨xs.length-(i+1),by ac_rfl,rfl,hlt,?_,sH.trans s3,s3 _ _ hL⟩
   rw[tk,ybd,yap (by rw[b];decide)]
   simpa using hy.imp fun v e q=>mono v e _ _ s3 q
 ·rw[yaz (by ac_rfl)] at hy
  exact .inl ⟨Y.stop i H' sH (by ac_rfl),fin ys H' sH hL hy⟩
section
variable {M:Model} {A:Around} {E:Value->Shared->Prop} {s:Shared}
theorem evp {k v:Sem Value} {rest:List (Sem Value × Sem Value)} {Q:List (Value × Value)->Shared->Prop} (h:wpAny M A k (fun a s1=>wpAny M A v (fun b s2=>wpAny M A (evalPairs rest) (fun l s3=>Q ((a,b)::l) s3) E s2) E s1) E s):wpAny M A (evalPairs ((k,v)::rest)) Q E s:=by
 show wpAny M A (do let kv <-k;let vv <-holding [kv] v;return (kv,vv)::(<-holding [kv,vv] (evalPairs rest))) Q E s
 exact wpAny_bind (thn h fun a s1 h1=>wpAny_bind (wpAny_holding (thn h1 fun b s2 h2=>wpAny_bind (wpAny_holding (thn h2 fun l s3 h3=>wpAny_pure h3)))))
theorem zvx {env:Env} {k:Str} {i:Int} {j j':Nat} {p q pos:Pos} {rest:List (Sem Value × Sem Value)} {Q:List (Value × Value)->Shared->Prop}
  (h:wpAny M A (evalPairs rest) (fun l s3=>Q ((.str k s.toks,.int i (s.toks+1))::l) s3) E { s with toks:=s.toks+2 }):wpAny M A (evalPairs ((eval (.Constant (.str k) j p) env,do let x <-eval (.Constant (.int i) j' q) env;standAt pos;pure x)::rest)) Q E s :=
 evp (Calls.Constant_str (wpAny_bind (wpAny_Constant_int (wpAny_bind (wpAny_standAt (wpAny_pure h))))))
end
section
variable {X:Cx} {pos:Pos}
theorem Room.zrv {k:Nat} {A:Around} (r:Room k A):A.units+65<cLine:=by have:=r.un;ac_rfl
end
section
variable {X:Cx} {pos:Pos}
theorem kv3 (k1 k2 k3:Key) (v1 v2 v3:Int) (t1 t2 t3:Tok):KV [(k1,V.int v1),(k2,.int v2),(k3,.int v3)] [(k1,Value.int v1 t1),(k2,.int v2 t2),(k3,.int v3 t3)] :=
 .cons ⟨rfl,t1,rfl⟩ (.cons ⟨rfl,t2,rfl⟩ (.cons ⟨rfl,t3,rfl⟩ .nil))
def zyb (k1 k2 k3:Str) (v1 v2 v3:Int):TE:=fun _ H Q=>∀ p,H p=none->Q (.ref p) (upd H p (.dK [(.inr k1,.int v1),(.inr k2,.int v2),(.inr k3,.int v3)]))
theorem zxJ {M:Program} {w:World} {A:Around} {E:Value->Shared->Prop} {s:Shared} {env:Env} {k:Str} {i:Int} {j j':Nat} {p q q' pos:Pos} {rest:List (Sem Value × Sem Value)} {Q:List (Value × Value)->Shared->Prop}
  (h:∀ a b n,wpAny (model M w) A (evalPairs rest) (fun l s3=>Q ((.str k a,.int (-i) b)::l) s3) E { s with toks:=n }):wpAny (model M w) A (evalPairs ((eval (.Constant (.str k) j p) env,do let x <-eval (.UnaryOp .USub (.Constant (.int i) j' q) q') env;standAt pos;pure x)::rest)) Q E s :=
 evp (Calls.Constant_str (wpAny_bind (UnaryOp_ (wpAny_Constant_int (neg_int (wpAny_bind (wpAny_standAt (wpAny_pure (h _ _ _)))))))))
theorem zxk {k1 k2 k3:Str} {v1 v2 v3:Int} {j1 j2 j3 i1 i2 i3:Nat} {p1 p2 p3 q1 q2 q3 q4:Pos} (nd:[k1,k2,k3].Nodup) :
  PE X (.Dict [some (.Constant (.str k1) j1 p1),some (.Constant (.str k2) j2 p2),some (.Constant (.str k3) j3 p3)] [.Constant (.int v1) i1 q1,.Constant (.int v2) i2 q2,.UnaryOp .USub (.Constant (.int v3) i3 q3) q4] pos) (zyb k1 k2 k3 v1 v2 (-v3)):=fun pins s σ H Q I h=>by
 have big:sysModules<s.heap.objs.size:=ydi (by decide) (show mainGlobals<s.heap.objs.size from (I.mod.glob.keeps I.bk).lt)
 refine wpAny_Dict_pairs (knd:=zgc X.prog X.w) (pairs:=[(eval (.Constant (.str k1) j1 p1) X.env,do let x <-eval (.Constant (.int v1) i1 q1) X.env;standAt pos;pure x),(eval (.Constant (.str k2) j2 p2) X.env,do let x <-eval (.Constant (.int v2) i2 q2) X.env;standAt pos;pure x),(eval (.Constant (.str k3) j3 p3) X.env,do let x <-eval (.UnaryOp .USub (.Constant (.int v3) i3 q3) q4) X.env;standAt pos;pure x)]) rfl (by simp) (show 3<=15 by decide) ?_
 refine zvx (zvx (zxJ fun a b n=>wpAny_pure ?_))
 refine ⟨[(.inr k1,.int v1 _),(.inr k2,.int v2 _),(.inr k3,.int (-v3) _)],⟨ze5 _ _ _ _,rfl,ze5 _ _ _ _,rfl,ze5 _ _ _ _,rfl,True.intro⟩,Heap.DictOf.new s.heap,fun h' hD sb=>?_⟩
 have e4:∀ (a b c:Value),merged [] [((.inr k1:Key),a),(.inr k2,b),(.inr k3,c)]=[(.inr k1,a),(.inr k2,b),(.inr k3,c)]:=fun a b c=>by
  simp only[ybj,yak,ybu,or_false,not_or] at nd
  obtain ⟨⟨n1,n2⟩,n3,_⟩:=nd
  have f:∀ {x y:Str},x≠y->¬ ((.inr x:Key)=.inr y):=fun h z=>h (Sum.inr.inj z)
  simp[merged,stored,f n1,f n2,f n3]
 rw[e4] at hD
 refine ⟨.ref s.heap.objs.size,_,I.laid (fun b o q=>?_) (ycz _) (show zai X.prog X.w _ _ _ (.dK _) from ⟨by rw[sizeLine_eq];show 3<=16777216;decide,beq_eq_false_iff_ne.mpr (Ne.symm (yda big)),_,kv3 _ _ _ _ _ _ _ _ _,hD⟩),rfl,h _ (I.hok.fresh (ycz _))⟩
 exact (sb.2 b (yda (ydq q))).trans (ydp _ q)
end
theorem zsS {k:Key} {z:V} {u:Value} (rz:RelV z u):∀ {kvs:List (Key × V)} {vs:List (Key × Value)},KV kvs vs->RelV (((kvs.find? fun q=>decide (q.1=k)).map (·.2)).getD z) (((vs.find? fun q=>decide (q.1=k)).map (·.2)).getD u)
 | _,_,.nil=>rz
 | p::kvs,q::vs,.cons ⟨e,r⟩ t=>by
  by_cases c:p.1=k
  ·rw[yaw (by simpa using c),yaw (by simpa using e.symm.trans c)]
   exact r
  ·rw[yar (by simpa using c),yar (by simpa [<-e] using c)]
   exact zsS rz t
section
variable {X:Cx} {o e f:Expr} {apos cpos:Pos} {td ty tx:TE}
def zxw (td ty tx:TE):TE:=fun σ H Q=>td σ H fun x H1=>∃ (d:Addr) (l:List (Key × V)),x=.ref d/\H1 d=some (.dK l)/\ty σ H1 fun y H2=>tx σ H2 fun z H3=>∃ (k:Str),y=.str k/\H3 d=some (.dK l)/\Q (((l.find? fun q=>decide (q.1=.inr k)).map (·.2)).getD z) H3
theorem zvO (ho:PE X o td) (he:PE X e ty) (hf:PE X f tx) (hb:attributeBase o "get" X.env (eval o X.env)=eval o X.env:=by rfl)
  (few:((backTo cpos (starEach [e,f] X.env)).all (fun x=>!x.1) && (backToKw cpos (keywordEach [] X.env)).all (fun x=>x.1.isSome)
   && decide (([e,f]:List Expr).length+([]:List Keyword).length+(if ([]:List Keyword).isEmpty then 0 else 1)<30))=true:=by rfl)
  (line:(apos.endLine == cpos.line)=true:=by rfl) (trees:backTo cpos (starEach [e,f] X.env)=[(false,eval e X.env),(false,eval f X.env)]:=by rfl):PE X (.Call (.Attribute o "get" apos) [e,f] [] cpos) (zxw td ty tx):=by
 intro pins s σ H Q I h
 refine wpAny_Call_method hb few line PySem.F.plainAttrs_dict PySem.F.slot_dict_get PySem.F.type_dict_get (thn (ho pins s σ H _ I h) fun u s1 ⟨x,H1,I1,rx,d,l,ex,hd,q1⟩=>?_)
 subst ex
 obtain rfl:u=Value.ref d:=rx
 obtain ⟨_,lo,kvs,hk,hD⟩:=(show l.length<=sizeLine/\(d == sysModules)=false/\∃ vs,KV l vs/\s1.heap.DictOf (zgc X.prog X.w) d vs from I1.hok d _ hd)
 refine ⟨hD.typeIs,hD.mapOf.noDict,?_⟩
 rw[trees]
 refine Calls.callWith_builtin rfl (Calls.evalArgs_plain (Calls.spliced_cons (thn (he pins s1 σ H1 _ I1 q1) fun iv s2 ⟨y,H2,I2,ry,q2⟩ =>
  Calls.spliced_cons (thn (hf pins s2 σ H2 _ I2 q2) fun fv s3 ⟨z,H3,I3,rz,k,ek,hd3,q3⟩=>Calls.spliced_nil ?_))))
 subst ek
 obtain ⟨t,rfl⟩:=ry
 obtain ⟨_,lo3,kvs3,hk3,hD3⟩:=(show l.length<=sizeLine/\(d == sysModules)=false/\∃ vs,KV l vs/\s3.heap.DictOf (zgc X.prog X.w) d vs from I3.hok d _ hd3)
 exact call_meetsIn PySem.F.slot_dict_get hD3.typeIs PySem.F.entry_dict_get (PySem.F.args_dict_get_3 _ _ _) (meets_dict_get_default (zgc X.prog X.w) d (ze5 _ _ _ _) lo3 fv) ⟨_,hD3.mapOf,_,H3,I3.tok _,zsS rz hk3,q3⟩
end
section
variable {X:Cx}
def zri (K:W.Frag):R2:=fun x y H Q=>∃ d xs,RdV K H x d/\RdV K H y (.list xs)/\SeqAt.shaped d=true/\SeqAt.shaped (.list xs)=true/\(∀ z∈xs,SeqAt.noMix z d=true)/\Q (.bl (!decide (countIn d xs≠0))) H
theorem ztI (hu:X.A.units+65<cLine):OpR X (compareOp .NotIn) (zri X.K):=by
 intro pins s σ H x y v u Q I rx ry h
 obtain ⟨d,xs,hd,he,sd,se,mx,q⟩:=h
 obtain ⟨as,ra⟩:=hd.reads I rx
 obtain ⟨bs,rb⟩:=he.reads I ry
 exact notIn_list_dataH rb ra se sd hu mx ⟨.bl _,H,I,rfl,q⟩
theorem zsC (K:W.Frag) (hu:X.A.units+65<cLine) (hK:X.K=K:=by rfl):OpR X (compareOp .NotIn) (zri K):=by
 subst hK
 exact ztI hu
theorem zui (K:W.Frag) (hK:X.K=K:=by rfl):SlR X (zwY K):=by
 subst hK
 exact zmU
end
end L2
namespace Sby
open L2
noncomputable abbrev Pl:=List (Int × Int)
noncomputable def sm (l:Pl) (k:Int):Int:=((l.filter fun p=>p.1=k).map (·.2)).sum
theorem zrp (l:Pl) (k x j:Int):sm (l++[(k,x)]) j=sm l j+if k=j then x else 0:=by
 unfold sm
 rw[ybd,yau,List.sum_append]
 by_cases e:k=j
 ·rw[if_pos e,yan (by simpa using e)];simp
 ·rw[if_neg e,yap (by simpa using e)];simp
theorem zeA {l:Pl} {k:Int} (h:k ∉ l.map (·.1)):sm l k=0:=by
 unfold sm
 rw[ybv.mpr]
 ·rfl
 ·intro p hp e
  exact h (yah.mpr ⟨p,hp,by simpa using e⟩)
structure Tot (acc l:Pl):Prop where
 nd:(acc.map (·.1)).Nodup
 mem:∀ k,k∈acc.map (·.1)↔k∈l.map (·.1)
 val:∀ p∈acc,p.2=sm l p.1
theorem Tot.nil:Tot [] []:=⟨.nil,fun k=>Iff.rfl,fun p hp=>by cases hp⟩
theorem Tot.look {acc l:Pl} (T:Tot acc l) (k:Int):((lkI acc k).map V.int).getD (.int 0)=.int (sm l k):=by
 unfold lkI
 cases e:acc.find? (fun p=>p.1=k) with
 | none =>
  have:k ∉ acc.map (·.1):=fun hm=>by
   obtain ⟨p,hp,ep⟩:=yah.mp hm
   have:=List.find?_eq_none.mp e p hp
   exact this (by simpa using ep)
  rw[zeA (fun z=>this ((T.mem k).mpr z))]
  rfl
 | some p =>
  have hp:=List.mem_of_find?_eq_some e
  have ep:p.1=k:=by simpa using List.find?_some e
  have:=T.val p hp
  rw[ep] at this
  rw[<-this]
  rfl
theorem Tot.step {acc l:Pl} (T:Tot acc l) (k x:Int):Tot (zal acc k (sm l k+x)) (l++[(k,x)]):=by
 have keys:∀ y:Int,(acc.map (fun p=>if p.1=k then (p.1,y) else p)).map (·.1)=acc.map (·.1):=fun y=>by
  rw[ybf]
  apply ycn
  intro p _
  show (if p.1=k then (p.1,y) else p).1=p.1
  split <;> rfl
 have lk:∀ j,j∈(l++[(k,x)]).map (·.1)↔j∈l.map (·.1)\/j=k:=fun j=>by simp[eq_comm]
 unfold zal
 split
 ·rename_i ha
  have hk:k∈acc.map (·.1):=by
   obtain ⟨p,hp,e⟩:=yce.mp ha
   exact yah.mpr ⟨p,hp,by simpa using e⟩
  refine ⟨by rw[keys];exact T.nd,fun j=>?_,fun p hp=>?_⟩
  ·rw[keys,lk,T.mem]
   refine ⟨.inl,fun h=>h.elim id fun e=>?_⟩
   rw[e];exact (T.mem k).mp hk
  ·obtain ⟨q,hq,rfl⟩:=yah.mp hp
   have v:=T.val q hq
   rw[zrp]
   by_cases e:q.1=k
   ·rw[if_pos e]
    show sm l k+x=sm l q.1+if k=q.1 then x else 0
    rw[if_pos e.symm,e]
   ·rw[if_neg e,if_neg (fun z=>e z.symm),v]
    ac_rfl
 ·rename_i ha
  have hk:k ∉ acc.map (·.1):=fun hm=>by
   obtain ⟨p,hp,e⟩:=yah.mp hm
   exact ha (yce.mpr ⟨p,hp,by simpa using e⟩)
  refine ⟨?_,fun j=>?_,fun p hp=>?_⟩
  ·rw[yau]
   refine ycj.mpr ⟨T.nd,by simp,?_⟩
   intro a ha' b hb
   have:b=k:=by simpa using hb
   intro z
   rw[z,this] at ha'
   exact hk ha'
  ·rw[lk,yau,yaf,T.mem]
   simp
  ·rw[zrp]
   rcases yaf.mp hp with hp | hp
   ·have ne:k≠p.1:=fun z=>hk (by rw[z];exact yah.mpr ⟨p,hp,rfl⟩)
    rw[if_neg ne,T.val p hp]
    ac_rfl
   ·obtain rfl:p=(k,sm l k+x):=by simpa using hp
    rw[if_pos rfl]
structure Tab (r l:Pl):Prop where
 up:(r.map (·.1)).Pairwise (·<·)
 mem:∀ k,k∈r.map (·.1)↔k∈l.map (·.1)
 val:∀ p∈r,p.2=sm l p.1
theorem zvt {ns:List Int} (nd:ns.Nodup) (up:ns.Pairwise (·<=·)):ns.Pairwise (·<·):=by
 induction ns with
 | nil=>exact .nil
 | cons n ns ih =>
  obtain ⟨n1,n2⟩:=ycf.mp nd
  obtain ⟨u1,u2⟩:=ycf.mp up
  refine ycf.mpr ⟨fun a ha=>?_,ih n2 u2⟩
  have:=u1 a ha
  have:=n1 a ha
  ac_rfl
theorem zeb {ns:List Int} (up:ns.Pairwise (·<·)):ns.Nodup:=up.imp fun h=>by ac_rfl
theorem Tot.tab {acc l r:Pl} (T:Tot acc l) (P:r.Perm acc) (S:r.Pairwise fun s t=>s.1<=t.1):Tab r l:=by
 have pk:=P.map (·.1)
 refine ⟨zvt (pk.nodup_iff.mpr T.nd) (ybm.mpr S),fun k=>(pk.mem_iff).trans (T.mem k),fun p hp=>T.val p (P.mem_iff.mp hp)⟩
end Sby
namespace L2
open PySem
noncomputable abbrev Er:=Ek × Int × Int
def isW (w:Str) (e:Er):Bool:=decide (V.str e.1.word=V.str w)
noncomputable def prs (w:Str) (es:List Er):List (Int × Int):=(es.filter (isW w)).map (·.2)
noncomputable def dys (w:Str) (es:List Er):List Int:=(es.filter (isW w)).map (·.2.1)
noncomputable def EL (K:W.Frag) (H:Hp):List V->List Er->Prop:=LL fun v e=>∃ a dx,v=.ref a/\zkD K H a dx e.1 e.2.1 e.2.2
theorem EL.same {K:W.Frag} {H H':Hp} {vs:List V} {es:List Er} (h:EL K H vs es) (s:Same H H'):EL K H' vs es:=LL.imp (fun v e ⟨a,dx,e1,e2⟩=>⟨a,dx,e1,s _ _ e2⟩) h
def AmW (w:Str):Prop:=w = "out" \/ w = "fee" \/ w = "pay" \/ w = "due"
theorem amt {w:Str} {k:Ek} {d x:Int} (hw:AmW w) (h:isW w (k,d,x)=true):yby ("amount" : Str) (zmN k d x)=some (V.int x)/\atI (zya k d x) 2=some (.int x):=by
 have e:k.word=w:=V.str.inj (of_decide_eq_true h)
 subst e
 rcases hw with hw | hw | hw | hw <;> (cases k <;> first | exact ⟨rfl,rfl⟩ | (exfalso;revert hw;decide))
theorem znk {K:W.Frag} {H:Hp} {ys:List V} {gs:List Er} (h:LL (fun v e=>∃ t,v=.ref t/\H t=some (.tup [.int e.2.1,.int e.2.2])) ys gs):zA K H ys (gs.map (·.2)):=by
 induction h with
 | nil=>exact .nil
 | cons h _ ih =>
  obtain ⟨t,rfl,ht⟩:=h
  exact .cons ht ih
structure Days (ns ds:List Int):Prop where
 up:ns.Pairwise (·<·)
 mem:∀ d,d∈ns↔d∈ds
theorem Days.of {ns ms ds:List Int} (nd:ms.Nodup) (mem:∀ d,d∈ms↔d∈ds) (pm:ns.Perm ms) (up:ns.Pairwise (·<=·)):Days ns ds:=⟨Sby.zvt (pm.nodup_iff.mpr nd) up,fun d=>pm.mem_iff.trans (mem d)⟩
theorem zrC {es:List Er} {w:Str}:(dys w es).length<=es.length:=by
 unfold dys
 rw[yab]
 exact yaq _ _
end L2
namespace L2
open PySem
theorem zwT {a b:Int} {r:Int} (h0:0<=r) (h1:r<2):∃ m,atI [V.int a,.int b] r=some (.int m)/\(m=a\/m=b):=by
 have:r=((0:Nat):Int)\/r=((1:Nat):Int):=by ac_rfl
 rcases this with rfl | rfl
 ·exact ⟨a,zaw rfl,.inl rfl⟩
 ·exact ⟨b,zaw rfl,.inr rfl⟩
end L2
namespace L2
open PySem
theorem zoV {a b c:Int} {r:Int} (h0:0<=r) (h1:r<3):∃ m,atI [V.int a,.int b,.int c] r=some (.int m)/\(m=a\/m=b\/m=c):=by
 have:r=((0:Nat):Int)\/r=((1:Nat):Int)\/r=((2:Nat):Int):=by ac_rfl
 rcases this with rfl | rfl | rfl
 ·exact ⟨a,zaw rfl,.inl rfl⟩
 ·exact ⟨b,zaw rfl,.inr (.inl rfl)⟩
 ·exact ⟨c,zaw rfl,.inr (.inr rfl)⟩
end L2
namespace L2
open PySem
end L2
namespace L2
open PySem
end L2
namespace L2
open PySem
theorem LL.of {α:Type} {R:V->α->Prop}:∀ {vs:List V} {es:List α},vs.length=es.length->(∀ (j:Nat) v,vs[j]?=some v->∃ e,es[j]?=some e/\R v e)->LL R vs es
 | [],[],_,_=>.nil
 | [],_::_,h,_=>by simp at h
 | _::_,[],h,_=>by simp at h
 | v::vs,e::es,h,p=>by
  obtain ⟨e',he,hr⟩:=p 0 v rfl
  cases he
  exact .cons hr (LL.of (by simpa using h) fun j w hw=>p (j+1) w hw)
end L2
namespace Spans
noncomputable abbrev Sp:=List (Int × Int)
def Cov (l:Sp) (d:Int):Prop:=∃ s∈l,s.1<=d/\d<s.2
structure Joined (l:Sp):Prop where
 up:∀ s∈l,s.1<s.2
 apart:l.Pairwise fun s t=>s.2<t.1
theorem zrI {d:Int}:¬ Cov [] d:=fun ⟨_,h,_⟩=>by cases h
theorem zus {s:Int × Int} {l:Sp} {d:Int}:Cov (s::l) d↔(s.1<=d/\d<s.2)\/Cov l d:=by
 constructor
 ·rintro ⟨t,ht,h⟩
  rcases yak.mp ht with rfl | ht
  ·exact .inl h
  ·exact .inr ⟨t,ht,h⟩
 ·rintro (h | ⟨t,ht,h⟩)
  ·exact ⟨s,yas,h⟩
  ·exact ⟨t,yam _ ht,h⟩
theorem zcH {a b:Sp} {d:Int}:Cov (a++b) d↔Cov a d\/Cov b d:=by
 constructor
 ·rintro ⟨t,ht,h⟩
  rcases yaf.mp ht with ht | ht
  ·exact .inl ⟨t,ht,h⟩
  ·exact .inr ⟨t,ht,h⟩
 ·rintro (⟨t,ht,h⟩ | ⟨t,ht,h⟩)
  ·exact ⟨t,ybn _ ht,h⟩
  ·exact ⟨t,yag _ ht,h⟩
def isIn (l:Sp) (d:Int):Bool:=l.any fun s=>decide (s.1<=d) && decide (d<s.2)
theorem zaC {l:Sp} {d:Int}:isIn l d=true↔Cov l d:=by
 unfold isIn
 rw[yce]
 constructor
 ·rintro ⟨s,hs,h⟩
  simp only[Bool.and_eq_true,decide_eq_true_eq] at h
  exact ⟨s,hs,h⟩
 ·rintro ⟨s,hs,h⟩
  exact ⟨s,hs,by simp only[Bool.and_eq_true,decide_eq_true_eq];exact h⟩
noncomputable def step (l:Sp) (st:Sp × Int) (e:Int):Sp × Int :=
 let f:=if isIn l e && !isIn l (e-1) then e else st.2
 (if isIn l e then st.1 else st.1++[(f,e)],f)
def least (l:Sp) (es:List Int):Sp:=(es.foldl (step l) ([],0)).1
theorem zwn {l:Sp} {a b:Int} (ab:a<=b) (h:∀ s∈l,∀ d,a<d->d<=b->d≠s.1/\d≠s.2):Cov l a↔Cov l b:=by
 constructor
 ·rintro ⟨s,hs,h1,h2⟩
  refine ⟨s,hs,by ac_rfl,?_⟩
  refine Int.not_le.mp fun le=>?_
  exact (h s hs s.2 h2 le).2 rfl
 ·rintro ⟨s,hs,h1,h2⟩
  refine ⟨s,hs,?_,by ac_rfl⟩
  refine Int.not_lt.mp fun lt=>?_
  exact (h s hs s.1 lt h1).1 rfl
theorem zpn {l:Sp} {d:Int} (h:¬ Cov l d):isIn l d=false:=by
 cases q:isIn l d with
 | false=>rfl
 | true=>exact absurd (zaC.mp q) h
end Spans
namespace Sums
noncomputable def S (f:Int->Int) (a:Int):Nat->Int
 | 0=>0
 | n+1=>S f a n+f (a+n)
noncomputable def sum (f:Int->Int) (a b:Int):Int:=S f a (b-a).toNat
theorem zwv {f:Int->Int} {a b:Int} (h:b<=a):sum f a b=0:=by
 unfold sum
 rw[show (b-a).toNat=0 by ac_rfl]
 rfl
theorem zqj (f:Int->Int) (a:Int) (n:Nat):∀ m,S f a (n+m)=S f a n+S f (a+n) m
 | 0=>by simp[S]
 | m+1=>by
  show S f a (n+m)+f (a+((n+m:Nat):Int))=S f a n+(S f (a+n) m+f (a+n+m))
  rw[zqj f a n m,show a+((n+m:Nat):Int)=a+n+m by ac_rfl]
  ac_rfl
theorem sum_add {f:Int->Int} {a b c:Int} (h1:a<=c) (h2:c<=b):sum f a b=sum f a c+sum f c b:=by
 unfold sum
 rw[show (b-a).toNat=(c-a).toNat+(b-c).toNat by ac_rfl,zqj,show a+((c-a).toNat:Int)=c by ac_rfl]
theorem zrB {f g:Int->Int} {a:Int}:∀ (n:Nat),(∀ d,a<=d->d<a+n->f d=g d)->S f a n=S g a n
 | 0,_=>rfl
 | n+1,h=>by
  show S f a n+f (a+n)=S g a n+g (a+n)
  rw[zrB n fun d h1 h2=>h d h1 (by ac_rfl),h (a+n) (by ac_rfl) (by ac_rfl)]
theorem znI {f g:Int->Int} {a b:Int} (h:∀ d,a<=d->d<b->f d=g d):sum f a b=sum g a b:=zrB _ fun d h1 h2=>h d h1 (by ac_rfl)
theorem zvf (c:Int) (f:Int->Int) (a:Int):∀ n,S (fun d=>c*f d) a n=c*S f a n
 | 0=>by simp[S]
 | n+1=>by
  show S (fun d=>c*f d) a n+c*f (a+n)=c*(S f a n+f (a+n))
  rw[zvf c f a n,Int.mul_add]
theorem zwh (c:Int) (f:Int->Int) (a b:Int):sum (fun d=>c*f d) a b=c*sum f a b:=zvf c f a _
theorem ztu (a:Int):∀ n,S (fun _=>0) a n=0
 | 0=>rfl
 | n+1=>by show S (fun _=>0) a n+0=0;rw[ztu a n];rfl
theorem zvl {U:Int->Int} {a:Int}:∀ n:Nat,S (fun d=>U (d+1)-U d) a n=U (a+n)-U a
 | 0=>by simp[S]
 | n+1=>by
  show S (fun d=>U (d+1)-U d) a n+(U (a+n+1)-U (a+n))=_
  rw[zvl n,show a+((n+1:Nat):Int)=a+n+1 by ac_rfl]
  ac_rfl
theorem zv4 {U:Int->Int} {a b:Int} (h:a<=b):sum (fun d=>U (d+1)-U d) a b=U b-U a:=by
 unfold sum
 rw[zvl,show a+((b-a).toNat:Int)=b by ac_rfl]
theorem zut {U v:Int->Int} {a b c:Int} (h:a<=b) (hv:∀ d,a<=d->d<b->v d=c):sum (fun d=>(U (d+1)-U d)*v d) a b=(U b-U a)*c:=by
 rw[znI (g:=fun d=>c*(U (d+1)-U d)) fun d h1 h2=>by rw[hv d h1 h2,Int.mul_comm],zwh,zv4 h,Int.mul_comm]
noncomputable abbrev Tab:=List (Int × Int)
def Val (t:Tab) (d v:Int):Prop:=(v=0/\∀ r∈t,d<r.1)\/∃ i:Nat,∃ b:Int,t[i]?=some (b,v)/\b<=d/\∀ (j:Nat) (r:Int × Int),t[j]?=some r->r.1<=d->r.1<b\/(r.1=b/\j<=i)
theorem Val.one {t:Tab} {d v u:Int} (a:Val t d v) (b:Val t d u):v=u:=by
 rcases a with ⟨rfl,h⟩ | ⟨i,x,e,le,h⟩
 ·rcases b with ⟨rfl,_⟩ | ⟨j,y,e',le',_⟩
  ·rfl
  ·have:=h _ (yae e')
   dsimp only at this
   ac_rfl
 ·rcases b with ⟨rfl,g⟩ | ⟨j,y,e',le',g⟩
  ·have:=g _ (yae e)
   dsimp only at this
   ac_rfl
  ·have p:=h j _ e' le'
   have q:=g i _ e le
   dsimp only at p q
   have ij:i=j:=by ac_rfl
   subst ij
   rw[e] at e'
   cases e'
   rfl
noncomputable def vstep (d:Int) (st:Int × Int) (r:Int × Int):Int × Int:=if st.1<=r.1/\r.1<=d then r else st
noncomputable def valOf (t:Tab) (d:Int):Int:=(t.foldl (vstep d) (-1,0)).2
theorem zdk {t:Tab} (h0:∀ r∈t,0<=r.1) (d:Int):Val t d (valOf t d):=by
 suffices q:∀ (pre rest:Tab) (st:Int × Int),pre++rest=t->((st=(-1,0)/\∀ r∈pre,d<r.1)\/∃ i:Nat,pre[i]?=some st/\st.1<=d/\∀ (j:Nat) (r:Int × Int),pre[j]?=some r->r.1<=d->r.1<st.1\/(r.1=st.1/\j<=i)) ->
   Val t d (rest.foldl (vstep d) st).2 from q [] t (-1,0) rfl (.inl ⟨rfl,fun r hr=>by cases hr⟩)
 intro pre rest
 induction rest generalizing pre with
 | nil =>
  intro st e h
  rw[yci] at e
  subst e
  rcases h with ⟨rfl,h⟩ | ⟨i,e,le,h⟩
  ·exact .inl ⟨rfl,h⟩
  ·exact .inr ⟨i,st.1,e,le,h⟩
 | cons r rest ih =>
  intro st e h
  have hr:0<=r.1:=h0 r (by rw[<-e];simp)
  refine ih (pre++[r]) (vstep d st r) (by rw[List.append_assoc];exact e) ?_
  have last:∀ (j:Nat) (x:Int × Int),(pre++[r])[j]?=some x->pre[j]?=some x\/(j=pre.length/\x=r):=fun j x hx=>by
   by_cases hj:j<pre.length
   ·rw[ybk hj] at hx
    exact .inl hx
   ·by_cases hj2:j=pre.length
    ·subst hj2
     rw[ybh (ycz _),ydn] at hx
     exact .inr ⟨rfl,(by cases hx;rfl)⟩
    ·rw[yat (by rw[yai,ybr];ac_rfl)] at hx
     cases hx
  unfold vstep
  by_cases c:st.1<=r.1/\r.1<=d
  ·rw[if_pos c]
   refine .inr ⟨pre.length,by rw[ybh (ycz _),ydn];rfl,c.2,fun j x hx hd=>?_⟩
   rcases last j x hx with hx | ⟨rfl,rfl⟩
   ·have hj:j<pre.length:=(yac.mp hx).1
    rcases h with ⟨_,h⟩ | ⟨i,_,_,h⟩
    ·have:=h x (yae hx)
     ac_rfl
    ·rcases h j x hx hd with z | z
     ·exact .inl (by ac_rfl)
     ·by_cases w:x.1=r.1
      ·exact .inr ⟨w,by ac_rfl⟩
      ·exact .inl (by ac_rfl)
   ·exact .inr ⟨rfl,ycz _⟩
  ·rw[if_neg c]
   rcases h with ⟨rfl,h⟩ | ⟨i,ei,le,h⟩
   ·refine .inl ⟨rfl,fun x hx=>?_⟩
    rcases yaf.mp hx with hx | hx
    ·exact h x hx
    ·have:x=r:=by simpa using hx
     rw[this]
     exact Int.not_le.mp fun q=>c ⟨by show (-1:Int)<=r.1;ac_rfl,q⟩
   ·refine .inr ⟨i,?_,le,fun j x hx hd=>?_⟩
    ·rw[ybk (yac.mp ei).1];exact ei
    ·rcases last j x hx with hx | ⟨rfl,rfl⟩
     ·exact h j x hx hd
     ·exact .inl (Int.not_le.mp fun q=>c ⟨q,hd⟩)
end Sums
namespace Stills
open Spans Sums
theorem fold_same {x y:Int}:∀ (t:Tab) (st:Int × Int),(∀ r∈t,(r.1<=x↔r.1<=y))->t.foldl (vstep x) st=t.foldl (vstep y) st
 | [],_,_=>rfl
 | r::t,st,h=>by
  have e:vstep x st r=vstep y st r:=by
   unfold vstep
   have:=h r (yas ..)
   by_cases c:st.1<=r.1/\r.1<=x
   ·rw[if_pos c,if_pos ⟨c.1,this.mp c.2⟩]
   ·rw[if_neg c,if_neg fun z=>c ⟨z.1,this.mpr z.2⟩]
  show t.foldl (vstep x) (vstep x st r)=t.foldl (vstep y) (vstep y st r)
  rw[e]
  exact fold_same t _ fun q hq=>h q (yam _ hq)
theorem zls {t:Tab} {x y:Int} (xy:x<=y) (h:∀ r∈t,¬ (x<r.1/\r.1<=y)):valOf t x=valOf t y:=by
 unfold valOf
 rw[fold_same (y:=y) t _ fun r hr=>by have:=h r hr;ac_rfl]
theorem zvT {l r:Sp} {x y:Int} (c:∀ d,Cov r d↔Cov l d) (xy:x<=y) (h:∀ s∈r,∀ d,x<d->d<=y->d≠s.1/\d≠s.2):isIn l x=isIn l y:=by
 have e:Cov l x↔Cov l y:=by rw[<-c,<-c];exact zwn xy h
 cases p:isIn l x with
 | true=>exact (zaC.mpr (e.mp (zaC.mp p))).symm
 | false =>
  cases q:isIn l y with
  | false=>rfl
  | true=>rw[zaC.mpr (e.mpr (zaC.mp q))] at p;cases p
structure Begun (r:Sp) (day:Int) (n:Nat):Prop where
 le:n<=r.length
 lo:∀ i s,i<n->r[i]?=some s->s.1<=day
 hi:∀ i s,n<=i->r[i]?=some s->day<s.1
structure Free (r:Sp) (day m:Int):Prop where
 from_:day<=m
 out:¬ Cov r m
 all:∀ d,day<=d->d<m->Cov r d
theorem Free.one {r:Sp} {day m n:Int} (a:Free r day m) (b:Free r day n):m=n:=by
 rcases yeb m n with h | h | h
 ·exact absurd (b.all m a.from_ h) a.out
 ·exact h
 ·exact absurd (a.all n b.from_ h) b.out
theorem Free.cov {r l:Sp} {day m:Int} (a:Free r day m) (h:∀ d,Cov r d↔Cov l d):Free l day m:=⟨a.from_,fun z=>a.out ((h _).mpr z),fun d h1 h2=>(h d).mp (a.all d h1 h2)⟩
theorem Free.here {r:Sp} {day:Int} (h:¬ Cov r day):Free r day day:=⟨ydz _,h,fun d h1 h2=>by ac_rfl⟩
theorem Free.gt {r:Sp} {day m:Int} (a:Free r day m):m > day↔Cov r day:=by
 constructor
 ·intro h
  exact a.all day (ydz _) h
 ·intro h
  have:=a.from_
  by_cases e:m=day
  ·rw[e] at a
   exact absurd h a.out
  ·ac_rfl
theorem zkn {r:Sp} (J:Joined r) {i j:Nat} {s t:Int × Int} (hi:r[i]?=some s) (hj:r[j]?=some t) (lt:i<j):s.2<t.1:=by
 obtain ⟨h1,rfl⟩:=yac.mp hi
 obtain ⟨h2,rfl⟩:=yac.mp hj
 exact yax.mp J.apart i j h1 h2 lt
theorem zsh {r:Sp} {day:Int} (B:Begun r day 0):Free r day day:=Free.here fun ⟨s,hs,h1,h2⟩=>by
 obtain ⟨j,hj,rfl⟩:=yba.mp hs
 have:=B.hi j _ (ydb _) (yaa hj)
 ac_rfl
theorem zrQ {r:Sp} (J:Joined r) {day:Int} {n:Nat} {s:Int × Int} (B:Begun r day (n+1)) (e:r[n]?=some s):Free r day (if s.2 > day then s.2 else day):=by
 have up:=J.up s (yae e)
 have lo:=B.lo n s (ydg _) e
 have other:∀ (t:Int × Int) (d:Int),t∈r->t.1<=d->d<t.2->day<=d->d<=s.2->t=s:=fun t d ht h1 h2 h3 h4=>by
  obtain ⟨j,hj,rfl⟩:=yba.mp ht
  have ej:=yaa hj
  rcases ydh j n with h | h | h
  ·have:=zkn J ej e h
   ac_rfl
  ·subst h
   rw[e] at ej
   cases ej
   rfl
  ·have:=zkn J e ej h
   ac_rfl
 by_cases c:s.2 > day
 ·rw[if_pos c]
  refine ⟨by ac_rfl,fun ⟨t,ht,h1,h2⟩=>?_,fun d h1 h2=>⟨s,yae e,by ac_rfl,h2⟩⟩
  have:=other t s.2 ht h1 h2 (by ac_rfl) (ydz _)
  rw[this] at h2
  ac_rfl
 ·rw[if_neg c]
  refine Free.here fun ⟨t,ht,h1,h2⟩=>?_
  obtain ⟨j,hj,rfl⟩:=yba.mp ht
  have ej:=yaa hj
  rcases ydh j n with h | h | h
  ·have:=zkn J ej e h
   ac_rfl
  ·subst h
   rw[e] at ej
   cases ej
   ac_rfl
  ·have:=B.hi j _ h ej
   ac_rfl
theorem zld {l:Sp} (day:Int):∃ m,Free l day m:=by
 obtain ⟨M,hM⟩:∃ M:Int,∀ s∈l,s.2<=M:=by
  clear day
  induction l with
  | nil=>exact ⟨0,fun s h=>by cases h⟩
  | cons s l ih =>
   obtain ⟨M,h⟩:=ih
   refine ⟨if M<=s.2 then s.2 else M,fun t ht=>?_⟩
   rcases yak.mp ht with rfl | ht
   ·split <;> ac_rfl
   ·have:=h t ht
    split <;> ac_rfl
 have fin:∀ n:Nat,∀ d:Int,M-d<=n->∃ m,Free l d m:=by
  intro n
  induction n with
  | zero =>
   intro d h
   refine ⟨d,Free.here fun ⟨s,hs,h1,h2⟩=>?_⟩
   have:=hM s hs
   ac_rfl
  | succ n ih =>
   intro d h
   by_cases c:Cov l d
   ·obtain ⟨m,F⟩:=ih (d+1) (by ac_rfl)
    refine ⟨m,by have:=F.from_;ac_rfl,F.out,fun x h1 h2=>?_⟩
    by_cases e:x=d
    ·rw[e];exact c
    ·exact F.all x (by ac_rfl) h2
   ·exact ⟨d,Free.here c⟩
 exact fin (M-day).toNat day (by ac_rfl)
end Stills
namespace Stills
open Spans Sums
theorem zjx:∀ (a b:List Int),a.Nodup->(∀ x∈a,x∈b)->a.length<=b.length
 | [],b,_,_=>ydb _
 | x::a,b,nd,h=>by
  have hx:=h x (yas ..)
  have n:=ybj.mp nd
  have:=zjx a (b.erase x) n.2 fun y hy=>by
   have ne:y≠x:=fun e=>n.1 (e ▸ hy)
   exact (ycm ne).mpr (h y (yam _ hy))
  rw[ybx hx] at this
  have p:0<b.length:=ybp hx
  show a.length+1<=b.length
  ac_rfl
theorem zth {r l:Sp} (J:Joined r) (C:∀ d,Cov r d↔Cov l d):r.length<=l.length:=by
 have nd:(r.map (·.1)).Nodup:=by
  unfold List.Nodup
  rw[ybm]
  refine (List.Pairwise.and_mem.mp J.apart).imp fun {s t} h=>?_
  have:=J.up s h.1
  have:=h.2.2
  ac_rfl
 have:=zjx (r.map (·.1)) (l.map (·.1)) nd fun x hx=>by
  obtain ⟨s,hs,rfl⟩:=yah.mp hx
  obtain ⟨t,ht,h1,h2⟩:=(C s.1).mp ⟨s,hs,ydz _,J.up s hs⟩
  have no:¬ Cov r (s.1-1):=by
   rintro ⟨u,hu,q1,q2⟩
   obtain ⟨i,hi,rfl⟩:=yba.mp hs
   obtain ⟨j,hj,rfl⟩:=yba.mp hu
   have ui:=J.up _ (ycp hi)
   rcases ydh i j with h | h | h
   ·have:=zkn J (yaa hi) (yaa hj) h
    ac_rfl
   ·subst h
    ac_rfl
   ·have:=zkn J (yaa hj) (yaa hi) h
    ac_rfl
  have e:t.1=s.1:=by
   by_cases lt:t.1<s.1
   ·exact absurd ((C _).mpr ⟨t,ht,by ac_rfl,by ac_rfl⟩) no
   ·ac_rfl
  exact yah.mpr ⟨t,ht,e⟩
 simpa using this
end Stills
namespace Stills
open Spans Sums
theorem zqh {l:Sp} (up:l.Pairwise fun s t=>s.1<t.1) {i j:Nat} {s t:Int × Int} (hi:l[i]?=some s) (hj:l[j]?=some t) (lt:i<j):s.1<t.1:=by
 obtain ⟨h1,rfl⟩:=yac.mp hi
 obtain ⟨h2,rfl⟩:=yac.mp hj
 exact yax.mp up i j h1 h2 lt
theorem zsW {l:Sp} (J:Joined l):l.Pairwise fun s t=>s.1<t.1:=by
 refine (List.Pairwise.and_mem.mp J.apart).imp fun {s t} h=>?_
 have:=J.up s h.1
 have:=h.2.2
 ac_rfl
theorem zvg {ns:List Int} (up:ns.Pairwise (·<·)) {i j:Nat} {x y:Int} (hi:ns[i]?=some x) (hj:ns[j]?=some y) (lt:i<j):x<y:=by
 obtain ⟨h1,rfl⟩:=yac.mp hi
 obtain ⟨h2,rfl⟩:=yac.mp hj
 exact yax.mp up i j h1 h2 lt
end Stills
namespace Stills
open Spans Sums
theorem zuf {r l:Sp} (h:∀ d,Cov r d↔Cov l d) (d:Int):isIn r d=isIn l d:=by
 by_cases c:Cov r d
 ·rw[zaC.mpr c,zaC.mpr ((h d).mp c)]
 ·rw[zpn c,zpn fun z=>c ((h d).mpr z)]
end Stills
namespace Stills
open Spans Sums
theorem zuO {t:Sp} {d:Int} (t0:∀ s∈t,0<=s.1) (B:Begun t d 0):valOf t d=0:=by
 refine Val.one (zdk t0 d) (.inl ⟨rfl,fun r hr=>?_⟩)
 obtain ⟨j,hj,rfl⟩:=yba.mp hr
 exact B.hi j _ (ydb _) (yaa hj)
theorem zuA {t:Sp} {d:Int} (t0:∀ s∈t,0<=s.1) (up:t.Pairwise fun s u=>s.1<u.1) {n:Nat} {s:Int × Int} (B:Begun t d (n+1)) (e:t[n]?=some s):valOf t d=s.2:=by
 refine Val.one (zdk t0 d) (.inr ⟨n,s.1,e,B.lo n s (ydg _) e,fun j r hj le=>?_⟩)
 rcases ydh j n with h | h | h
 ·exact .inl (zqh up hj e h)
 ·subst h
  rw[e] at hj
  cases hj
  exact .inr ⟨rfl,ycz _⟩
 ·have:=B.hi j r h hj
  ac_rfl
end Stills
namespace Stills
open Spans Sums
end Stills
namespace Stills
end Stills
namespace Stills
open Spans Sums
structure TabOf (t tb:Sp):Prop where
 up:tb.Pairwise fun s u=>s.1<u.1
 val:∀ d,valOf tb d=valOf t d
 days:∀ d,(∃ s∈tb,d=s.1)↔∃ s∈t,d=s.1
theorem TabOf.nn {t tb:Sp} (T:TabOf t tb) (t0:∀ s∈t,0<=s.1):∀ s∈tb,0<=s.1:=fun s hs=>by
 obtain ⟨u,hu,e⟩:=(T.days s.1).mp ⟨s,hs,rfl⟩
 rw[e]
 exact t0 u hu
theorem tab_of {t:Sp} {ds:List Int} (t0:∀ s∈t,0<=s.1) (up:ds.Pairwise (·<·)) (mem:∀ d,d∈ds↔∃ s∈t,d=s.1):TabOf t (ds.map fun d=>(d,valOf t d)):=by
 have d0:∀ s∈ds.map fun d=>(d,valOf t d),0<=s.1:=fun s hs=>by
  obtain ⟨d,hd,rfl⟩:=yah.mp hs
  obtain ⟨u,hu,e⟩:=(mem d).mp hd
  show 0<=d
  rw[e]
  exact t0 u hu
 refine ⟨by rw[ybm];exact up,fun d=>?_,fun d=>?_⟩
 ·refine Val.one (zdk d0 d) ?_
  rcases zdk t0 d with ⟨e,h⟩ | ⟨i,b,e,le,h⟩
  ·rw[e]
   refine .inl ⟨rfl,fun r hr=>?_⟩
   obtain ⟨x,hx,rfl⟩:=yah.mp hr
   obtain ⟨u,hu,e'⟩:=(mem x).mp hx
   show d<x
   rw[e']
   exact h u hu
  ·have hb:b∈ds:=(mem b).mpr ⟨_,yae e,rfl⟩
   obtain ⟨j,hj,ej⟩:=yba.mp hb
   have vb:valOf t b=valOf t d:=Val.one (zdk t0 b) (.inr ⟨i,b,e,ydz _,fun k r hk hr=>h k r hk (by ac_rfl)⟩)
   refine .inr ⟨j,b,?_,le,fun k r hk hr=>?_⟩
   ·rw[yaj,yaa hj,ej]
    show some (b,valOf t b)=_
    rw[vb]
   ·rw[yaj] at hk
    obtain ⟨x,hx,rfl⟩:=Option.map_eq_some_iff.mp hk
    have ej':ds[j]?=some b:=by rw[yaa hj,ej]
    obtain ⟨u,hu,eu⟩:=(mem x).mp (yae hx)
    obtain ⟨n,hn,en⟩:=yba.mp hu
    have hxb:x<=b:=by
     have:=h n u (by rw[yaa hn,en]) (by rw[<-eu];exact hr)
     rw[<-eu] at this
     ac_rfl
    rcases ydh k j with c | c | c
    ·exact .inl (zvg up hx ej' c)
    ·subst c
     rw[ej'] at hx
     cases hx
     exact .inr ⟨rfl,ycz _⟩
    ·have:=zvg up ej' hx c
     ac_rfl
 ·constructor
  ·rintro ⟨s,hs,rfl⟩
   obtain ⟨x,hx,rfl⟩:=yah.mp hs
   exact (mem x).mp hx
  ·intro hd
   exact ⟨(d,valOf t d),yah.mpr ⟨d,(mem d).mpr hd,rfl⟩,rfl⟩
end Stills
namespace Stills
open Spans Sums
end Stills
namespace Stills
end Stills
namespace Stills
open Spans Sums
structure JInv (P acc:Sp):Prop where
 j:Joined acc
 c:∀ d,Cov acc d↔Cov P d
 f:∀ t∈acc,∃ s∈P,t.1=s.1
theorem znj {s:Int × Int} {d:Int}:Cov [s] d↔s.1<=d/\d<s.2:=by
 rw[zus]
 exact ⟨fun h=>h.elim id fun z=>absurd z zrI,.inl⟩
theorem JInv.nil:JInv [] []:=⟨⟨fun s h=>(by cases h),List.Pairwise.nil⟩,fun _=>Iff.rfl,fun t h=>(by cases h)⟩
theorem JInv.begin_ {P:Sp} {s:Int × Int} (J:JInv P []) (up:s.1<s.2):JInv (P++[s]) [s]:=by
 refine ⟨⟨fun t ht=>?_,ybt _ _⟩,fun d=>?_,fun t ht=>?_⟩
 ·have:t=s:=by simpa using ht
  rw[this];exact up
 ·rw[zcH,<-J.c]
  exact ⟨.inr,fun h=>h.elim (fun z=>absurd z zrI) id⟩
 ·have:t=s:=by simpa using ht
  exact ⟨s,by simp,by rw[this]⟩
theorem JInv.add {P acc:Sp} {t s:Int × Int} (J:JInv P (acc++[t])) (up:s.1<s.2) (h:t.2<s.1):JInv (P++[s]) (acc++[t]++[s]):=by
 have jt:=J.j.up t (by simp)
 refine ⟨⟨fun u hu=>?_,ybo.mpr ⟨J.j.apart,ybt _ _,fun u hu v hv=>?_⟩⟩,fun d=>?_,fun u hu=>?_⟩
 ·rcases yaf.mp hu with hu | hu
  ·exact J.j.up u hu
  ·have:u=s:=by simpa using hu
   rw[this];exact up
 ·have:v=s:=by simpa using hv
  subst this
  rcases yaf.mp hu with hu' | hu'
  ·have:=(ybo.mp J.j.apart).2.2 u hu' t (by simp)
   ac_rfl
  ·have:u=t:=by simpa using hu'
   rw[this];exact h
 ·rw[zcH (a:=acc++[t]),zcH (a:=P),J.c]
 ·rcases yaf.mp hu with hu | hu
  ·obtain ⟨x,hx,e⟩:=J.f u hu
   exact ⟨x,yaf.mpr (.inl hx),e⟩
  ·have:u=s:=by simpa using hu
   exact ⟨s,by simp,by rw[this]⟩
theorem JInv.grow {P acc:Sp} {t s:Int × Int} {m:Int} (J:JInv P (acc++[t])) (up:s.1<s.2) (h0:t.1<=s.1) (h:s.1<=t.2) (hm:m=if s.2 > t.2 then s.2 else t.2):JInv (P++[s]) (acc++[(t.1,m)]):=by
 have jt:=J.j.up t (by simp)
 have hm':t.2<=m/\s.2<=m/\(m=t.2\/m=s.2):=by rw[hm];split <;> ac_rfl
 obtain ⟨p1,p2,p3⟩:=ybo.mp J.j.apart
 refine ⟨⟨fun u hu=>?_,ybo.mpr ⟨p1,ybt _ _,fun u hu v hv=>?_⟩⟩,fun d=>?_,fun u hu=>?_⟩
 ·rcases yaf.mp hu with hu | hu
  ·exact J.j.up u (yaf.mpr (.inl hu))
  ·have:u=(t.1,m):=by simpa using hu
   rw[this]
   show t.1<m
   ac_rfl
 ·have:v=(t.1,m):=by simpa using hv
  rw[this]
  exact p3 u hu t (by simp)
 ·have a:=J.c d
  rw[zcH,znj] at a
  rw[zcH,zcH,<-a,znj,znj]
  show (Cov acc d\/(t.1<=d/\d<m))↔((Cov acc d\/(t.1<=d/\d<t.2))\/(s.1<=d/\d<s.2))
  constructor
  ·rintro (z | z)
   ·exact .inl (.inl z)
   ·by_cases c:d<t.2
    ·exact .inl (.inr ⟨z.1,c⟩)
    ·exact .inr (by ac_rfl)
  ·rintro ((z | z) | z)
   ·exact .inl z
   ·exact .inr (by ac_rfl)
   ·exact .inr (by ac_rfl)
 ·rcases yaf.mp hu with hu | hu
  ·obtain ⟨x,hx,e⟩:=J.f u (yaf.mpr (.inl hu))
   exact ⟨x,yaf.mpr (.inl hx),e⟩
  ·have:u=(t.1,m):=by simpa using hu
   obtain ⟨x,hx,e⟩:=J.f t (by simp)
   exact ⟨x,yaf.mpr (.inl hx),by rw[this];exact e⟩
theorem zvY {a b:Sp} (h:∀ s,s∈a↔s∈b) (d:Int):Cov a d↔Cov b d:=⟨fun ⟨s,hs,q⟩=>⟨s,(h s).mp hs,q⟩,fun ⟨s,hs,q⟩=>⟨s,(h s).mpr hs,q⟩⟩
end Stills
namespace Dct
open L2
def days (t:List (Int × Int)) (d:Int):Prop:=∃ s∈t,d=s.1
theorem zwM {d:Int} (h:-1<=d):∀ (t:List (Int × Int)) (st:Int × Int),st.1<=d->(t.foldl (Sums.vstep d) st).1<=d
 | [],st,hs=>hs
 | x::t,st,hs=>by
  rw[ybq]
  refine zwM h t _ ?_
  unfold Sums.vstep
  split
  ·rename_i q;exact q.2
  ·exact hs
theorem ztM {d:Int}:∀ (t:List (Int × Int)) (st:Int × Int),st.1=d->(t.foldl (Sums.vstep d) st).1=d
 | [],st,hs=>hs
 | x::t,st,hs=>by
  rw[ybq]
  refine ztM t _ ?_
  unfold Sums.vstep
  split
  ·rename_i q;ac_rfl
  ·exact hs
theorem zvs {d:Int} (h:0<=d):∀ (t:List (Int × Int)) (st:Int × Int),st.1<=d->days t d->(t.foldl (Sums.vstep d) st).1=d
 | [],st,_,hd=>by obtain ⟨s,hs,_⟩:=hd;cases hs
 | x::t,st,hs,hd=>by
  rw[ybq]
  by_cases e:x.1=d
  ·refine ztM t _ ?_
   unfold Sums.vstep
   rw[if_pos ⟨by ac_rfl,by ac_rfl⟩]
   exact e
  ·refine zvs h t _ ?_ ?_
   ·unfold Sums.vstep
    split
    ·rename_i q;exact q.2
    ·exact hs
   ·obtain ⟨s,m,q⟩:=hd
    rcases yak.mp m with rfl | m
    ·exact absurd q.symm e
    ·exact ⟨s,m,q⟩
theorem ztc (t:List (Int × Int)) (x:Int × Int):zdm (t++[x])=zal (zdm t) x.1 x.2:=by
 unfold zdm
 rw[yck]
 rfl
theorem zm5 (l:List (Int × Int)) (k:Int):l.any (fun p=>p.1=k)=true↔days l k:=by
 rw[yce]
 constructor
 ·rintro ⟨s,m,q⟩;exact ⟨s,m,(of_decide_eq_true q).symm⟩
 ·rintro ⟨s,m,q⟩;exact ⟨s,m,decide_eq_true q.symm⟩
theorem zmr {l:List (Int × Int)} {k y:Int} {s:Int × Int} (h:s∈zal l k y):(s.1=k/\s.2=y)\/(s∈l/\s.1≠k):=by
 unfold zal at h
 split at h
 ·obtain ⟨u,m,e⟩:=yah.mp h
  by_cases q:u.1=k
  ·rw[if_pos q] at e;subst e;exact .inl ⟨q,rfl⟩
  ·rw[if_neg q] at e;subst e;exact .inr ⟨m,q⟩
 ·rename_i na
  rcases yaf.mp h with m | m
  ·refine .inr ⟨m,fun q=>na ((zm5 l k).mpr ⟨s,m,q.symm⟩)⟩
  ·obtain rfl:s=(k,y):=by simpa using m
   exact .inl ⟨rfl,rfl⟩
theorem zqF {l:List (Int × Int)} {k y d:Int}:days (zal l k y) d↔days l d\/d=k:=by
 constructor
 ·rintro ⟨s,m,q⟩
  rcases zmr m with ⟨a,_⟩ | ⟨a,_⟩
  ·exact .inr (q.trans a)
  ·exact .inl ⟨s,a,q⟩
 ·intro h
  unfold zal
  split
  ·rename_i a
   have hd:days l d:=by
    rcases h with h | h
    ·exact h
    ·rw[h];exact (zm5 l k).mp a
   obtain ⟨s,m,q⟩:=hd
   by_cases e:s.1=k
   ·exact ⟨(s.1,y),yah.mpr ⟨s,m,by rw[if_pos e]⟩,q⟩
   ·exact ⟨s,yah.mpr ⟨s,m,by rw[if_neg e]⟩,q⟩
  ·rcases h with ⟨s,m,q⟩ | h
   ·exact ⟨s,ybn _ m,q⟩
   ·exact ⟨(k,y),yag _ (ybs.mpr rfl),h⟩
theorem zqC {l:List (Int × Int)} {k y:Int} (h:(l.map (·.1)).Nodup):((zal l k y).map (·.1)).Nodup:=by
 unfold zal
 split
 ·rw[ybf]
  have e:((fun x:Int × Int=>x.1) ∘ fun p:Int × Int=>if p.1=k then (p.1,y) else p)=fun x=>x.1:=by
   funext p
   show (if p.1=k then (p.1,y) else p).1=p.1
   split <;> rfl
  rw[e]
  exact h
 ·rename_i na
  rw[yau]
  refine ycj.mpr ⟨h,by simp,fun a ha b hb=>?_⟩
  have hb':b=k:=by simpa using hb
  obtain ⟨s,m,q⟩:=yah.mp ha
  rw[hb']
  intro z
  exact na ((zm5 l k).mpr ⟨s,m,by rw[<-z];exact q.symm⟩)
structure Is (t l:List (Int × Int)):Prop where
 keys:(l.map (·.1)).Nodup
 days:∀ d,days l d↔days t d
 val:∀ s∈l,s.2=Sums.valOf t s.1
theorem dct_is:∀ (n:Nat) (t:List (Int × Int)),t.length=n->(∀ s∈t,0<=s.1)->Is t (zdm t)
 | 0,t,e,_=>by
  obtain rfl:t=[]:=List.eq_nil_of_length_eq_zero e
  exact ⟨List.nodup_nil,fun d=>Iff.rfl,fun s hs=>by cases hs⟩
 | n+1,t,e,h0=>by
  have ne:t≠[]:=fun z=>by rw[z] at e;cases e
  have et:t.dropLast++[t.getLast ne]=t:=List.dropLast_concat_getLast ne
  generalize t.dropLast=u at et
  generalize t.getLast ne=x at et
  subst et
  have ul:u.length=n:=by simpa using e
  have ih:=dct_is n u ul fun s hs=>h0 s (ybn _ hs)
  rw[ztc]
  refine ⟨zqC ih.keys,fun d=>?_,fun s hs=>?_⟩
  ·rw[zqF,ih.days]
   constructor
   ·rintro (⟨s,m,q⟩ | q)
    ·exact ⟨s,ybn _ m,q⟩
    ·exact ⟨x,yag _ (ybs.mpr rfl),q⟩
   ·rintro ⟨s,m,q⟩
    rcases yaf.mp m with m | m
    ·exact .inl ⟨s,m,q⟩
    ·obtain rfl:s=x:=by simpa using m
     exact .inr q
  ·have x0:=h0 x (yag _ (ybs.mpr rfl))
   have ev:∀ d,Sums.valOf (u++[x]) d=(Sums.vstep d (u.foldl (Sums.vstep d) (-1,0)) x).2:=fun d=>by
    unfold Sums.valOf
    rw[yck]
    rfl
   rcases zmr hs with ⟨a,b⟩ | ⟨a,b⟩
   ·rw[ev,b,a]
    unfold Sums.vstep
    rw[if_pos ⟨zwM (by ac_rfl) u (-1,0) (by show -1<=x.1;ac_rfl),ydz _⟩]
   ·rw[ev,ih.val s a]
    have d0:0<=s.1:=by
     obtain ⟨r,m,q⟩:=(ih.days s.1).mp ⟨s,a,rfl⟩
     rw[q]
     exact h0 r (ybn _ m)
    have b1:=zvs d0 u (-1,0) (by show -1<=s.1;ac_rfl) ((ih.days s.1).mp ⟨s,a,rfl⟩)
    have st:Sums.vstep s.1 (u.foldl (Sums.vstep s.1) (-1,0)) x=u.foldl (Sums.vstep s.1) (-1,0):=if_neg (by rw[b1];ac_rfl)
    rw[st]
    rfl
theorem tab {t r:List (Int × Int)} (h0:∀ s∈t,0<=s.1) (p:r.Perm (zdm t)) (o:r.Pairwise fun s u=>s.1<=u.1):Stills.TabOf t r/\r=(r.map (·.1)).map fun d=>(d,Sums.valOf t d):=by
 have I:=dct_is t.length t rfl h0
 have nd:(r.map (·.1)).Nodup:=(p.map (·.1)).nodup_iff.mpr I.keys
 have up:(r.map (·.1)).Pairwise (·<·):=by
  have o':(r.map (·.1)).Pairwise (·<=·):=by
   rw[ybm]
   exact o
  refine (o'.and nd).imp fun {a b} h=>?_
  have:=h.1
  have:=h.2
  ac_rfl
 have e:r=(r.map (·.1)).map fun d=>(d,Sums.valOf t d):=by
  rw[ybf]
  conv=>lhs;rw[<-List.map_id r]
  refine ycn fun s hs=>?_
  show s=(s.1,Sums.valOf t s.1)
  rw[<-I.val s (p.mem_iff.mp hs)]
 refine ⟨?_,e⟩
 rw[e]
 refine Stills.tab_of h0 up fun d=>?_
 constructor
 ·intro m
  obtain ⟨s,hs,rfl⟩:=yah.mp m
  exact (I.days s.1).mp ⟨s,p.mem_iff.mp hs,rfl⟩
 ·intro m
  obtain ⟨s,hs,q⟩:=(I.days d).mpr m
  exact yah.mpr ⟨s,p.mem_iff.mpr hs,q.symm⟩
end Dct
namespace L2
open PySem
noncomputable def bkF (c g e o f p t r l s d:V):List (Str × V):=[("own_count", c),("own_grace", g),("own_entries", e),("out_sums", o),("fee_sums", f),("pay_sums", p),("turn_days", t),("rate_rows", r),("late_rows", l),("spans", s),("due_sums", d)]
noncomputable def upto (l:List (Int × Int)) (d:Int):Int:=((l.filter fun s=>decide (s.1<=d)).map (·.2)).sum
structure BkT where
 (kd:Kd) (g:Int) (es:List Er) (outs fees pays:List (Int × Int)) (turns:List Int) (rates lates spans dues:List (Int × Int))
def LP (K:W.Frag) (H:Hp) (p:Addr) (l:List (Int × Int)):Prop:=∃ xs,H p=some (.lst xs)/\zA K H xs l/\l.length<=1000
theorem LP.same {K:W.Frag} {H H':Hp} {p:Addr} {l:List (Int × Int)} (h:LP K H p l) (s:Same H H'):LP K H' p l:=by
 obtain ⟨xs,e,r,n⟩:=h
 exact ⟨xs,s _ _ e,r.same s,n⟩
structure BkA where
 (dx c e o f p t r l s d:Addr)
noncomputable def BkA.fs (A:BkA) (g:Int):List (Str × V):=bkF (.ref A.c) (.int g) (.ref A.e) (.ref A.o) (.ref A.f) (.ref A.p) (.ref A.t) (.ref A.r) (.ref A.l) (.ref A.s) (.ref A.d)
structure zbd (K:W.Frag) (H:Hp) (a:Addr) (A:BkA) (b:BkT):Prop where
 ins:H a=some (.ins (cA K "Book") A.dx (A.fs b.g))
 cnt:zb5 K H A.c b.kd
 ents:∃ xs,H A.e=some (.lst xs)/\EL K H xs b.es
 outs:LP K H A.o b.outs
 fees:LP K H A.f b.fees
 pays:LP K H A.p b.pays
 turns:H A.t=some (.lst (b.turns.map V.int))
 rates:LP K H A.r b.rates
 lates:LP K H A.l b.lates
 spans:LP K H A.s b.spans
 dues:LP K H A.d b.dues
theorem zbd.same {K:W.Frag} {H H':Hp} {a:Addr} {A:BkA} {b:BkT} (h:zbd K H a A b) (s:Same H H'):zbd K H' a A b :=
 ⟨s _ _ h.ins,h.cnt.same s,(let ⟨xs,e,r⟩:=h.ents;⟨xs,s _ _ e,r.same s⟩),h.outs.same s,h.fees.same s,h.pays.same s,s _ _ h.turns,h.rates.same s,h.lates.same s,h.spans.same s,h.dues.same s⟩
noncomputable def wo (H:Hp) (a:Addr):Hp:=fun b=>if b=a then none else H b
theorem zve {H:Hp} {a b:Addr} (h:b≠a):wo H a b=H b:=if_neg h
theorem zck {H:Hp} {a:Addr}:Same (wo H a) H:=fun b o e=>by
 unfold wo at e
 split at e
 ·cases e
 ·exact e
theorem zvJ {H H':Hp} {a:Addr} (s:Same H H'):Same (wo H a) (wo H' a):=fun b o e=>by
 unfold wo at e ⊢
 split at e
 ·cases e
 ·rename_i n
  rw[if_neg n]
  exact s _ _ e
theorem zc0 {H:Hp} {a:Addr} {o:HO}:wo (upd H a o) a=wo H a:=funext fun b=>by
 unfold wo
 split
 ·rfl
 ·rename_i n
  rw[zr n]
theorem zv5 {K:W.Frag} {H:Hp} {a C dx:Addr} {fs:List (Str × V)} {xs:List V} {l:List (Int × Int)} (h:zA K H xs l) (e:H a=some (.ins C dx fs)):zA K (wo H a) xs l:=by
 induction h with
 | nil=>exact .nil
 | cons h _ ih=>exact .cons (by rw[zve (zau h e (by intro z;cases z))];exact h) ih
theorem zpu {H:Hp} {a p C dx:Addr} {fs:List (Str × V)} {xs:List V} (h:H p=some (.lst xs)) (e:H a=some (.ins C dx fs)):wo H a p=some (.lst xs):=by
 rw[zve (zau h e (by intro z;cases z))];exact h
theorem LP.wo {K:W.Frag} {H:Hp} {a p C dx:Addr} {fs:List (Str × V)} {l:List (Int × Int)} (h:LP K H p l) (e:H a=some (.ins C dx fs)):LP K (L2.wo H a) p l:=by
 obtain ⟨xs,h1,h2,h3⟩:=h
 exact ⟨xs,zpu h1 e,zv5 h2 e,h3⟩
theorem zcO {H H2:Hp} {a:Addr} {o:HO} (s:Same H H2):Same (wo H a) (wo (upd H2 a o) a):=by
 rw[zc0]
 exact zvJ s
noncomputable def tot (q:Int->Bool) (l:List (Int × Int)):Int:=((l.filter fun s=>q s.1).map (·.2)).sum
theorem zei (q:Int->Bool) (s:Int × Int) (l:List (Int × Int)):tot q (s::l)=(if q s.1 then s.2 else 0)+tot q l:=by
 unfold tot
 by_cases h:q s.1=true
 ·rw[yan (by simpa using h),if_pos h];simp
 ·rw[yap (by simpa using h),if_neg h];simp
theorem zeH (s:Int × Int) (l:List (Int × Int)) (n:Int):Sby.sm (s::l) n=(if s.1=n then s.2 else 0)+Sby.sm l n:=by
 have:=zei (fun k=>decide (k=n)) s l
 simpa [tot,Sby.sm] using this
theorem znJ (q:Int->Bool) (n:Int):∀ l:List (Int × Int),tot q l=(if q n then Sby.sm l n else 0)+tot q (l.filter fun s=>decide (s.1≠n))
 | []=>by simp[tot,Sby.sm]
 | s::l=>by
  rw[zei,znJ q n l,zeH]
  by_cases e:s.1=n
  ·rw[yap (by simpa using e),if_pos e,e]
   split <;> ac_rfl
  ·rw[yan (by simpa using e),if_neg e,zei]
   split <;> split <;> ac_rfl
theorem zw0 {n d:Int} (h:d≠n) (l:List (Int × Int)):Sby.sm (l.filter fun s=>decide (s.1≠n)) d=Sby.sm l d:=by
 induction l with
 | nil=>rfl
 | cons s l ih =>
  by_cases e:s.1=n
  ·rw[yap (by simpa using e),zeH,if_neg (by ac_rfl),ih];ac_rfl
  ·rw[yan (by simpa using e),zeH,zeH,ih]
theorem zo4 (q:Int->Bool):∀ (ns:List Int) (l:List (Int × Int)),ns.Nodup->(∀ p∈l,p.1∈ns)->tot q (ns.map fun d=>(d,Sby.sm l d))=tot q l
 | [],l,_,h=>by
  cases l with
  | nil=>rfl
  | cons s l=>exact absurd (h s yas) (by simp)
 | n::ns,l,nd,h=>by
  obtain ⟨n1,n2⟩:=ybj.mp nd
  rw[ybi,zei,znJ q n l,<-zo4 q ns (l.filter fun s=>decide (s.1≠n)) n2 fun p hp=>?_]
  ·congr 2
   apply ycn
   intro d hd
   rw[zw0 (fun (e:d=n)=>n1 (by rw[<-e];exact hd))]
  ·obtain ⟨h1,h2⟩:=yal.mp hp
   rcases yak.mp (h p h1) with e | e
   ·exact absurd e (by simpa using h2)
   ·exact e
theorem zuy {r l:List (Int × Int)} (T:Sby.Tab r l):r=(r.map (·.1)).map fun d=>(d,Sby.sm l d):=by
 rw[ybf]
 conv=>lhs;rw[<-List.map_id r]
 apply ycn
 intro p hp
 show p=(p.1,Sby.sm l p.1)
 rw[<-T.val p hp]
theorem zrE {r l:List (Int × Int)} (T:Sby.Tab r l) (q:Int->Bool):tot q r=tot q l:=by
 rw[zuy T]
 exact zo4 q _ l (Sby.zeb T.up) fun p hp=>(T.mem p.1).mpr (yay hp)
theorem zp6 {r l:List (Int × Int)} (T:Sby.Tab r l) (d:Int):upto r d=upto l d:=zrE T fun k=>decide (k<=d)
noncomputable def mvp (f:Int->Int) (l:List (Int × Int)):List (Int × Int):=l.map fun s=>(f s.1,s.2)
theorem ztr (f:Int->Int) (l:List (Int × Int)) (k:Int):Sby.sm (mvp f l) k=tot (fun d=>decide (f d=k)) l:=by
 induction l with
 | nil=>rfl
 | cons s l ih =>
  show Sby.sm ((f s.1,s.2)::mvp f l) k=_
  rw[zeH,zei,ih]
  by_cases e:f s.1=k
  ·rw[if_pos e,if_pos (by simpa using e)]
  ·rw[if_neg e,if_neg (by simpa using e)]
theorem zvR {r r2 l:List (Int × Int)} (f:Int->Int) (T:Sby.Tab r l) (T2:Sby.Tab r2 (mvp f r)):Sby.Tab r2 (mvp f l):=by
 have k:∀ l:List (Int × Int),(mvp f l).map (·.1)=(l.map (·.1)).map f:=fun l=>by unfold mvp;rw[ybf,ybf];rfl
 refine ⟨T2.up,fun d=>(T2.mem d).trans ?_,fun p hp=>?_⟩
 ·rw[k,k]
  constructor
  ·intro h
   obtain ⟨x,hx,e⟩:=yah.mp h
   exact yah.mpr ⟨x,(T.mem x).mp hx,e⟩
  ·intro h
   obtain ⟨x,hx,e⟩:=yah.mp h
   exact yah.mpr ⟨x,(T.mem x).mpr hx,e⟩
 ·rw[T2.val p hp,ztr,ztr,zrE T]
noncomputable def mvd (l:List (Int × Int)) (d:Int):Int:=Classical.choose (Stills.zld (l:=l) d)
theorem ziq (l:List (Int × Int)) (d:Int):Stills.Free l d (mvd l d):=Classical.choose_spec (Stills.zld (l:=l) d)
theorem zmo {l:List (Int × Int)} {d m:Int} (h:Stills.Free l d m):m=mvd l d:=h.one (ziq l d)
theorem zrP {l r:List (Int × Int)} (h:∀ d,Spans.Cov l d↔Spans.Cov r d):mvd l=mvd r:=funext fun d=>zmo ((ziq l d).cov h)
structure zbf (b:BkT):Prop where
 outs:Sby.Tab b.outs (prs "out" b.es)
 fees:Sby.Tab b.fees (prs "fee" b.es)
 pays:Sby.Tab b.pays (prs "pay" b.es)
 turns:Days b.turns (dys "turn" b.es)
 rates:Stills.TabOf (prs "rate" b.es) b.rates/\b.rates=(b.rates.map (·.1)).map (fun d=>(d,Sums.valOf (prs "rate" b.es) d))
 lates:Stills.TabOf (prs "late" b.es) b.lates/\b.lates=(b.lates.map (·.1)).map (fun d=>(d,Sums.valOf (prs "late" b.es) d))
 spans:Spans.Joined b.spans/\∀ d,Spans.Cov b.spans d↔Spans.Cov (prs "still" b.es) d
 dues:Sby.Tab b.dues (mvp (mvd (prs "still" b.es)) (prs "due" b.es))
def RtW (w:Str):Prop:=w = "rate" \/ w = "late"
theorem rtl {w:Str} {k:Ek} {d x:Int} (hw:RtW w) (h:isW w (k,d,x)=true):yby ("rate" : Str) (zmN k d x)=some (V.int x):=by
 have e:k.word=w:=V.str.inj (of_decide_eq_true h)
 subst e
 rcases hw with hw | hw <;> (cases k <;> first | rfl | (exfalso;revert hw;decide))
theorem stl {k:Ek} {d x:Int} (h:isW "still" (k,d,x)=true):yby ("until" : Str) (zmN k d x)=some (V.int x):=by
 have e:k.word = "still" := V.str.inj (of_decide_eq_true h)
 cases k <;> first | rfl | (exfalso;revert e;decide)
theorem zup (l:List (Int × Int)) (d:Int):Spans.Cov (l.filter fun s=>decide (s.1<s.2)) d↔Spans.Cov l d:=by
 constructor
 ·rintro ⟨s,hs,h⟩
  exact ⟨s,(yal.mp hs).1,h⟩
 ·rintro ⟨s,hs,h1,h2⟩
  exact ⟨s,yal.mpr ⟨hs,by simp;ac_rfl⟩,h1,h2⟩
theorem ziC {w:Str} {es:List Er}:(prs w es).length<=es.length:=by
 unfold prs
 rw[yab]
 exact yaq _ _
theorem tyC {K:W.Frag} {H:Hp} {a:Addr} {kd:Kd} (cl:Cls K (cA K kd.cls)) (I:zt4 K (cA K kd.cls)) (h:zb5 K H a kd):zdg K H (.ref a) (.ref (cA K kd.cls)):=by
 obtain ⟨dx,e⟩:=h
 exact .ins e cl I.ha I.hn I.htk I.hm
theorem comp_map {α:Type} {J:It} {ix:List Nat} {te:TE} {σ:St} {l:Addr} {xs:List V} {H:Hp} {R:Hp->Prop} (Y:zgy J H xs) (hl:H l=none) (hz:xs.length<=sizeLine) (es:List α) (len:es.length=xs.length)
  (P:Hp->V->α->Prop) (mono:∀ v e H1 H2,Same H1 H2->P H1 v e->P H2 v e) (put:∀ v e H1 ys zs,H1 l=some (.lst ys)->P H1 v e->P (upd H1 l (.lst zs)) v e)
  (he:∀ (i:Nat) x e H' Q',xs[i]?=some x->es[i]?=some e->Same H H'->(∀ v H2,Same H' H2->P H2 v e->Q' v H2)->te (some x::capts σ ix) H' Q')
  (fin:∀ ys H',Same H H'->H' l=some (.lst ys)->LL (P H') ys es->R H') :
  ∃ W:Nat->Nat->List V->Hp->Prop,(∃ m,W 0 m [] (upd H l (.lst [])))/\Turns ix te σ J l R W:=by
 refine zpV Y hl hz (fun i v H'=>∃ e,es[i]?=some e/\P H' v e) (fun i v H1 H2 s ⟨e,e1,e2⟩=>⟨e,e1,mono v e _ _ s e2⟩) (fun i v H1 ys zs hL ⟨e,e1,e2⟩=>⟨e,e1,put v e _ _ _ hL e2⟩) ?_ ?_
 ·intro i x H' Q' hx sH hq
  have il:i<es.length:=by rw[len];exact (yac.mp hx).1
  have eP:es[i]?=some (es[i]'il):=yaa il
  exact he i x _ H' Q' hx eP sH fun v H2 s2 pv=>hq v H2 s2 ⟨_,eP,pv⟩
 ·intro ys H' sH eL yl hp
  exact fin ys H' sH eL (LL.of (by ac_rfl) hp)
theorem zuK {K:W.Frag} {H:Hp} {f:Int->Int} {ys:List V} {l:List (Int × Int)} (h:LL (fun v s=>∃ t,v=.ref t/\H t=some (.tup [.int (f s.1),.int s.2])) ys l):zA K H ys (mvp f l):=by
 induction h with
 | nil=>exact .nil
 | cons h _ ih =>
  obtain ⟨t,rfl,e⟩:=h
  exact .cons e ih
noncomputable def zb7 (k:Ek) (d x:Int):List V:=[.str k.word,.int d,.int x]
noncomputable def RL3 (H:Hp):List V->List Er->Prop:=LL fun v e=>∃ t,v=.ref t/\H t=some (.tup (zb7 e.1 e.2.1 e.2.2))
theorem RL3.same {H H':Hp} {vs:List V} {es:List Er} (h:RL3 H vs es) (s:Same H H'):RL3 H' vs es:=LL.imp (fun v e ⟨t,e1,e2⟩=>⟨t,e1,s _ _ e2⟩) h
theorem zsM (l:List (Int × Int)) (s:Int × Int) (d:Int):Spans.isIn (l++[s]) d=(Spans.isIn l d || (decide (s.1<=d) && decide (d<s.2))):=by
 unfold Spans.isIn
 rw[List.any_append]
 simp
theorem zsw {X:Cx} (K:W.Frag) (hK:X.K=K:=by rfl):OpR X (compareOp .In) (rIn K false):=by
 subst hK
 exact zhm
theorem zok {X:Cx} (K:W.Frag) (hK:X.K=K:=by rfl):OpR X (compareOp .NotIn) (rIn K true):=by
 subst hK
 exact zo9
theorem zuk (ns:List Int) (a b:Nat):∃ ms:List Int,ms.length<=b-a/\zhX (ns.map V.int) (some (a:Int)) (some (b:Int))=ms.map V.int:=by
 refine ⟨(ns.drop (min a (ns.map V.int).length)).take (min b (ns.map V.int).length-min a (ns.map V.int).length),?_,?_⟩
 ·refine yde (List.length_take_le ..) ?_
  generalize (ns.map V.int).length=n
  rcases Nat.le_total a n with h | h
  ·rw[Nat.min_eq_left h]
   exact Nat.sub_le_sub_right (Nat.min_le_left ..) a
  ·rw[Nat.min_eq_right h,Nat.sub_eq_zero_of_le (Nat.min_le_right ..)]
   exact ydb _
 ·unfold zhX
  rw[zm0,zm0,List.map_take,List.map_drop]
theorem zj3 {α:Type} {J:It} {ix:List Nat} {tt:TT} {te:TE} {σ:St} {l:Addr} {xs:List V} {H:Hp} {R:Hp->Prop} (Y:zgy J H xs) (hl:H l=none) (hz:xs.length<=sizeLine) (es:List α) (len:es.length=xs.length)
  (f:α->Bool) (P:Hp->V->α->Prop) (mono:∀ v e H1 H2,Same H1 H2->P H1 v e->P H2 v e) (put:∀ v e H1 ys zs,H1 l=some (.lst ys)->P H1 v e->P (upd H1 l (.lst zs)) v e)
  (ht:∀ (i:Nat) x e H' Q',xs[i]?=some x->es[i]?=some e->Same H H'->(∀ H2,Same H' H2->Q' (f e) H2)->tt (some x::capts σ ix) H' Q')
  (he:∀ (i:Nat) x e H' Q',xs[i]?=some x->es[i]?=some e->f e=true->Same H H'->(∀ v H2,Same H' H2->P H2 v e->Q' v H2)->te (some x::capts σ ix) H' Q')
  (fin:∀ ys H',Same H H'->H' l=some (.lst ys)->LL (P H') ys (es.filter f)->R H') :
  ∃ W:Nat->Nat->List V->Hp->Prop,(∃ m,W 0 m [] (upd H l (.lst [])))/\ziz ix tt te σ J l R W:=by
 refine ⟨fun i m ys H'=>m=xs.length-i/\i<=xs.length/\LL (P H') ys ((es.take i).filter f)/\Same H H'/\H' l=some (.lst ys),⟨xs.length,by simp,ydb _,by simp;exact .nil,ze hl _,zg⟩,?_⟩
 rintro i m ys H' ⟨rfl,hi,hy,sH,hL⟩
 refine ⟨hL,?_⟩
 by_cases hlt:i<xs.length
 ·have eP:es[i]?=some (es[i]'(by ac_rfl)):=yaa (by ac_rfl)
  generalize es[i]'(by ac_rfl)=e at eP
  have tk:es.take (i+1)=es.take i++[e]:=by rw[ybb,eP];rfl
  refine .inr ⟨Y.go i H' sH hlt,by
   have:ys.length<=i:=by
    rw[hy.length]
    exact yde (yaq _ _) (by rw[ybe];ac_rfl)
   ac_rfl,fun x H2 y=>?_⟩
  obtain ⟨rfl,e2⟩:=Y.yld i H' x H2 sH y
  refine ht i x e _ _ e2 eP sH fun H4 s4=>?_
  have sH4:=sH.trans s4
  have hL4:=s4 _ _ hL
  have hy4:=hy.imp fun v e q=>mono v e _ _ s4 q
  cases b:f e with
  | true =>
   rw[if_pos rfl]
   refine he i x e _ _ e2 eP b sH4 fun v H3 s3 pv=>?_
   have hL3:=s3 _ _ hL4
   refine ⟨hL3,xs.length-(i+1),by ac_rfl,rfl,hlt,?_,zN (sH4.trans s3) hl,zg⟩
   rw[tk,ybd,yan b]
   exact ((hy4.imp fun v e q=>put v e H3 ys _ hL3 (mono v e _ _ s3 q)).push (put v e H3 ys _ hL3 pv))
  | false =>
   rw[if_neg Bool.false_ne_true]
   refine ⟨xs.length-(i+1),by ac_rfl,rfl,hlt,?_,sH4,hL4⟩
   rw[tk,ybd,yap (by rw[b];decide)]
   simpa using hy4
 ·rw[yaz (by ac_rfl)] at hy
  exact .inl ⟨Y.stop i H' sH (by ac_rfl),fin ys H' sH hL hy⟩
end L2
namespace L2
open PySem
noncomputable abbrev T3:=Int × Int × Int
noncomputable def mn (a b:Int):Int:=if b<a then b else a
noncomputable def sum2 (l:List (Int × Int)):Int:=(l.map (·.2)).sum
noncomputable def zxR (day paid t:Int) (s:Int × Int):List T3:=if s.1<=day/\mn s.2 (t+s.2-paid) > 0 then [(s.1,s.2,mn s.2 (t+s.2-paid))] else []
noncomputable def opn (day paid:Int):Int->List (Int × Int)->List T3
 | _,[]=>[]
 | t,s::l=>zxR day paid t s++opn day paid (t+s.2) l
theorem ztN (l:List (Int × Int)) (s:Int × Int):sum2 (l++[s])=sum2 l+s.2:=by simp[sum2]
noncomputable def p0 (a:Int):Int:=if a > 0 then a else 0
theorem zhw (s:Int × Int) (l:List (Int × Int)) (x:Int):upto (s::l) x=(if s.1<=x then s.2 else 0)+upto l x:=by
 have:=zei (fun k=>decide (k<=x)) s l
 simpa [tot,upto] using this
theorem zff {l:List (Int × Int)} {x:Int} (h:∀ s∈l,x<s.1):upto l x=0:=by
 unfold upto
 rw[ybv.mpr (fun s hs=>by have:=h s hs;simp;ac_rfl)]
 rfl
end L2
namespace L2
open PySem
theorem zmE (d x:Int):∀ r:List (Int × Int),(∀ s∈r,s.1<=x->s.1<=d)\/∃ s∈r,d<s.1/\s.1<=x/\∀ u∈r,u.1<=x->u.1<=s.1
 | []=>.inl fun s hs=>by cases hs
 | a::r=>by
  by_cases c:d<a.1/\a.1<=x
  ·right
   rcases zmE d x r with h | ⟨s,hs,h1,h2,h3⟩
   ·refine ⟨a,by simp,c.1,c.2,fun u hu z=>?_⟩
    rcases yak.mp hu with rfl | hu
    ·exact ydz _
    ·have:=h u hu z;ac_rfl
   ·by_cases c2:s.1<=a.1
    ·refine ⟨a,by simp,c.1,c.2,fun u hu z=>?_⟩
     rcases yak.mp hu with rfl | hu
     ·exact ydz _
     ·have:=h3 u hu z;ac_rfl
    ·refine ⟨s,yam _ hs,h1,h2,fun u hu z=>?_⟩
     rcases yak.mp hu with rfl | hu
     ·ac_rfl
     ·exact h3 u hu z
  ·rcases zmE d x r with h | ⟨s,hs,h1,h2,h3⟩
   ·left
    intro u hu z
    rcases yak.mp hu with rfl | hu
    ·ac_rfl
    ·exact h u hu z
   ·right
    refine ⟨s,yam _ hs,h1,h2,fun u hu z=>?_⟩
    rcases yak.mp hu with rfl | hu
    ·ac_rfl
    ·exact h3 u hu z
theorem znc {r:List (Int × Int)} {x y:Int} (h:∀ s∈r,s.1<=x↔s.1<=y):upto r x=upto r y:=by
 unfold upto
 rw[yca (q:=fun s=>decide (s.1<=y)) fun s hs=>decide_eq_decide.mpr (h s hs)]
noncomputable def runs:Int->List (Int × Int)->List (Int × Int)
 | _,[]=>[]
 | t,s::l=>(s.1,t+s.2)::runs (t+s.2) l
theorem znw:∀ (l:List (Int × Int)) (t:Int) (s:Int × Int),runs t (l++[s])=runs t l++[(s.1,t+sum2 l+s.2)]
 | [],t,s=>by simp[runs,sum2]
 | u::l,t,s=>by
  simp only[List.cons_append,runs,znw l]
  have:t+u.2+sum2 l+s.2=t+sum2 (u::l)+s.2:=by simp[sum2];ac_rfl
  rw[this]
theorem zdy:∀ (l:List (Int × Int)) (t:Int),(runs t l).map (·.1)=l.map (·.1)
 | [],t=>rfl
 | s::l,t=>by simp[runs,zdy l]
theorem zuV (l:List (Int × Int)) (t:Int):(runs t l).length=l.length:=by
 have:=congrArg List.length (zdy l t)
 rwa [yab,yab] at this
theorem zoM:∀ {l:List (Int × Int)} (t:Int),((l.map (·.1)).Pairwise (·<·))->∀ s∈runs t l,s.2=t+upto l s.1
 | [],t,_,s,h=>by simp[runs] at h
 | a::l,t,up,s,h=>by
  rw[ybi,ycf] at up
  simp only[runs] at h
  rw[zhw]
  rcases yak.mp h with rfl | h
  ·rw[if_pos (ydz _),zff fun u hu=>up.1 u.1 (yay hu)]
   simp
  ·have hk:s.1∈l.map (·.1):=by rw[<-zdy l (t+a.2)];exact yay h
   have:=up.1 _ hk
   rw[zoM (t+a.2) up.2 s h,if_pos (by ac_rfl)]
   ac_rfl
theorem ztF {l:List (Int × Int)} (h:(l.map (·.1)).Pairwise (·<·)):l.Pairwise fun s t=>s.1<t.1:=by rwa [ybm] at h
theorem zpP {r:List (Int × Int)} (up:(r.map (·.1)).Pairwise (·<·)) (nn:∀ s∈r,0<=s.1) (d:Int):Sums.valOf (runs 0 r) d=upto r d:=by
 have keys:=zdy r 0
 have upr:(runs 0 r).Pairwise fun s t=>s.1<t.1:=ztF (by rw[keys];exact up)
 have t0:∀ s∈runs 0 r,0<=s.1:=fun s hs=>by
  have:s.1∈r.map (·.1):=by rw[<-keys];exact yay hs
  obtain ⟨u,hu,e⟩:=yah.mp this
  rw[<-e];exact nn u hu
 refine Sums.Val.one (Sums.zdk t0 d) ?_
 rcases zmE (-1) d r with k | ⟨s,hs,h1,h2,h3⟩
 ·have far:∀ s∈r,d<s.1:=fun s hs=>by
   have:=nn s hs
   rcases Int.lt_or_le d s.1 with c | c
   ·exact c
   ·have:=k s hs c;ac_rfl
  refine .inl ⟨zff far,fun s hs=>?_⟩
  have:s.1∈r.map (·.1):=by rw[<-keys];exact yay hs
  obtain ⟨u,hu,e⟩:=yah.mp this
  rw[<-e];exact far u hu
 ·have:s.1∈(runs 0 r).map (·.1):=by rw[keys];exact yay hs
  obtain ⟨u,hu,e⟩:=yah.mp this
  obtain ⟨n,hn⟩:=yav.mp hu
  have uv:=zoM 0 up u hu
  rw[znc (y:=s.1) fun v hv=>⟨h3 v hv,fun z=>by ac_rfl⟩]
  refine .inr ⟨n,s.1,by rw[hn];rw[<-e];congr 1;exact Prod.ext rfl (by rw[uv];simp),h2,fun j v hv le=>?_⟩
  have hvk:v.1∈r.map (·.1):=by rw[<-keys];exact yay (yae hv)
  obtain ⟨w,hw,ew⟩:=yah.mp hvk
  have:=h3 w hw (by ac_rfl)
  rcases ydh j n with c | c | c
  ·have:=Stills.zqh upr hv hn c;left;ac_rfl
  ·subst c
   rw[hn] at hv
   cases hv
   right;exact ⟨e,ycz _⟩
  ·have:=Stills.zqh upr hn hv c;ac_rfl
end L2
namespace L2
open PySem PySem.Spec PyProof.Rows
open AutoSeq1 (wpAny_loadPart')
theorem zlR (l:Addr) (items:Array Value) (n:Nat) (b:Addr) (items2:Array Value) (n2:Nat) (dd:Option Addr) (ss:Array (Option Value)) (hs0:¬(!items.isEmpty && Builtin.List.listTooLong (items.size+items2.size))=true) (hs1:items.size<=sizeLine) (hs2:items.size+items2.size<=sizeLine+1) :
  Meets (Builtin.«list.extend» ⟨[.ref l,.ref b],[]⟩) (fun _ R s=>s.heap.get? l=some { cls:=.type "list", dict:=none,data:=.seq items n,slots:=#[] }/\s.heap.get? b=some { cls:=.type "tuple", dict:=dd,data:=.seq items2 n2,slots:=ss }/\R (.ok (.ret Value.none)) { s with heap:=s.heap.update l (Obj.mapSeq fun x=>x++items2),toks:=s.toks }) :=
 .of_wp fun prog w A R s h=>by
  obtain ⟨hp,g,d,tk,os⟩:=s;obtain ⟨hl,hb,h⟩:=h;have f1:=AutoSeq1.idx_int;have f2:=sub_tuple_tuple;have f3:=sub_list_list;have f4:=sub_tuple_list;have f5:=sub_list_tuple;
  have hz':(items++items2).size<=sizeLine+1:=by rw[Array.size_append];exact hs2
  wp_walk using (wpAny_updateSeq hl rfl (hz:=hs1) (_hz':=hz')),wpAny_loadPart' hl,wpAny_loadPart' hb;exact ⟨_,rfl,h⟩
noncomputable def zum:V->List V->Hp->VK->Prop:=fun x vs H Q=>∃ l b xs zs,x=.ref l/\vs=[.ref b]/\H l=some (.lst xs)/\H b=some (.tup zs)/\xs.length+zs.length<=sizeLine/\Q .non (upd H l (.lst (xs++zs)))
theorem zsa {X:Cx}:MtM X "list.extend" zum:=by
 intro pins s σ H x vs v us Q I rx rv h
 obtain ⟨l,b,xs,zs,rfl,rfl,hH,hB,hz,q⟩:=h
 cases rx
 obtain ⟨u,rfl,ru⟩:=rv.one
 cases ru
 obtain ⟨z,its,n,r,hl,e⟩:=I.znh hH
 obtain ⟨z2,its2,r2,tp⟩:=(show zai X.prog X.w H s.heap b (.tup zs) from I.hok b _ hB)
 have hl2:=r2.length
 obtain ⟨⟨c,dd,dt,ss⟩,e2,oc,n2,od⟩:=(show s.heap.IsTuple b its2.toArray from tp)
 replace oc:c=.type "tuple" := oc
 replace od:dt=.seq its2.toArray n2:=od
 subst oc od
 have hsz:its.toArray.size+its2.toArray.size<=sizeLine:=by rw[yao,yao];ac_rfl
 have hlong:¬ (!its.toArray.isEmpty && Builtin.List.listTooLong (its.toArray.size+its2.toArray.size))=true:=by
  rw[zpz hsz,Bool.and_false]
  exact Bool.false_ne_true
 refine call_meets F.slot_list_extend ⟨_,e,rfl⟩ F.entry_list_extend (F.args_list_extend_2 _ _)
  (zlR l its.toArray n b its2.toArray n2 dd ss hlong (by rw[yao];ac_rfl) (by ac_rfl)) ⟨e,e2,?_⟩
 refine ⟨.non,_,I.lset (its':=its++its2) hH e (by simp) (r.append r2) ?_,rfl,q⟩
 rw[yai]
 ac_rfl
end L2
namespace L2
open PySem
noncomputable def csum (U f:Int->Int) (a b:Int):Int:=Sums.sum (fun d=>(U (d+1)-U d)*f d) a b
theorem zlF {U f:Int->Int} {a b c:Int} (h1:a<=c) (h2:c<=b):csum U f a b=csum U f a c+csum U f c b:=Sums.sum_add h1 h2
theorem zil {U f:Int->Int} {a b:Int} (h:b<=a):csum U f a b=0:=Sums.zwv h
theorem znD {U f:Int->Int} {x y:Int} (xy:x<=y) (h:∀ d,x<=d->d<y->f d=f x):csum U f x y=(U y-U x)*f x:=Sums.zut xy fun d h1 h2=>by rw[h d h1 h2]
noncomputable def zen (b:BkT) (d:Int):Int:=if Spans.isIn b.spans d then 0 else Sums.valOf b.rates d
noncomputable def zem (b:BkT) (d:Int):Int:=if Spans.isIn b.spans d then 0 else Sums.valOf b.lates d
noncomputable def zdM (b:BkT) (d:Int):Int:=if Spans.isIn b.spans d then 0 else p0 (upto b.dues (d-b.g)-upto b.pays d)
noncomputable def zas (b:BkT) (P d:Int):Int:=zen b d*P+zem b d*mn P (zdM b d)
def TDay (b:BkT) (t:Int):Prop:=t=0\/(∃ s∈b.rates++b.lates++b.pays,t=s.1)\/(∃ s∈b.dues,t=s.1+b.g)\/∃ s∈b.spans,t=s.1\/t=s.2
theorem stay {b:BkT} {x z:Int} (xz:x<=z) (h:∀ t,TDay b t->¬ (x<t/\t<=z)):zen b z=zen b x/\zem b z=zem b x/\zdM b z=zdM b x:=by
 have i1:Spans.isIn b.spans x=Spans.isIn b.spans z:=Stills.zvT (fun _=>Iff.rfl) xz fun s hs e q1 q2=>⟨fun k=>h e (.inr (.inr (.inr ⟨s,hs,.inl k⟩))) ⟨q1,q2⟩,fun k=>h e (.inr (.inr (.inr ⟨s,hs,.inr k⟩))) ⟨q1,q2⟩⟩
 have r1:Sums.valOf b.rates x=Sums.valOf b.rates z:=Stills.zls xz fun s hs q=>h s.1 (.inr (.inl ⟨s,yaf.mpr (.inl (yaf.mpr (.inl hs))),rfl⟩)) q
 have l1:Sums.valOf b.lates x=Sums.valOf b.lates z:=Stills.zls xz fun s hs q=>h s.1 (.inr (.inl ⟨s,yaf.mpr (.inl (yaf.mpr (.inr hs))),rfl⟩)) q
 have p1:upto b.pays z=upto b.pays x:=znc fun s hs=>by
  have:=h s.1 (.inr (.inl ⟨s,yaf.mpr (.inr hs),rfl⟩))
  ac_rfl
 have d1:upto b.dues (z-b.g)=upto b.dues (x-b.g):=znc fun s hs=>by
  have:=h (s.1+b.g) (.inr (.inr (.inl ⟨s,hs,rfl⟩)))
  ac_rfl
 unfold zen zem zdM
 rw[i1,r1,l1,p1,d1]
 exact ⟨rfl,rfl,rfl⟩
theorem ztj {b:BkT} {P x z:Int} (xz:x<=z) (h:∀ t,TDay b t->¬ (x<t/\t<=z)):zas b P z=zas b P x:=by
 obtain ⟨h1,h2,h3⟩:=stay xz h
 unfold zas
 rw[h1,h2,h3]
structure BOk (b:BkT):Prop where
 ru:b.rates.Pairwise fun s t=>s.1<t.1
 rn:∀ s∈b.rates,0<=s.1/\0<=s.2/\s.2<=1000000
 lu:b.lates.Pairwise fun s t=>s.1<t.1
 ln:∀ s∈b.lates,0<=s.1/\0<=s.2/\s.2<=1000000
 pu:(b.pays.map (·.1)).Pairwise (·<·)
 pn:∀ s∈b.pays,0<=s.1
 du:(b.dues.map (·.1)).Pairwise (·<·)
 dn:∀ s∈b.dues,0<=s.1
 jn:Spans.Joined b.spans
 sn:∀ s∈b.spans,0<=s.1
 g0:0<=b.g
 sz:b.rates.length+b.lates.length+b.pays.length+b.dues.length+2*b.spans.length<63
theorem zmu {t:List (Int × Int)} (h:∀ s∈t,0<=s.1/\0<=s.2/\s.2<=1000000) (d:Int):0<=Sums.valOf t d/\Sums.valOf t d<=1000000:=by
 rcases Sums.zdk (fun s hs=>(h s hs).1) d with ⟨e,_⟩ | ⟨i,x,e,_⟩
 ·rw[e];exact ⟨ydz _,by decide⟩
 ·exact (h _ (yae e)).2
theorem BOk.rt {b:BkT} (O:BOk b) (d:Int):0<=zen b d/\zen b d<=1000000:=by
 unfold zen
 split
 ·exact ⟨ydz _,by decide⟩
 ·exact zmu O.rn d
theorem BOk.lt {b:BkT} (O:BOk b) (d:Int):0<=zem b d/\zem b d<=1000000:=by
 unfold zem
 split
 ·exact ⟨ydz _,by decide⟩
 ·exact zmu O.ln d
noncomputable def shf (g:Int) (l:List (Int × Int)):List (Int × Int):=l.map fun s=>(s.1+g,s.2)
theorem zuq (g:Int) (l:List (Int × Int)) (d:Int):upto (shf g l) d=upto l (d-g):=by
 unfold upto shf
 rw[ycy,ybf]
 congr 1
 rw[yca (q:=fun s=>decide (s.1<=d-g)) fun s hs=>by
  show decide (s.1+g<=d)=decide (s.1<=d-g)
  exact decide_eq_decide.mpr ⟨fun h=>by ac_rfl,fun h=>by ac_rfl⟩]
 rfl
theorem ztG {g:Int} {l:List (Int × Int)} (h:(l.map (·.1)).Pairwise (·<·)):((shf g l).map (·.1)).Pairwise (·<·):=by
 unfold shf
 rw[ybf]
 rw[ybm] at h ⊢
 exact h.imp fun {a b} z=>by show a.1+g<b.1+g;ac_rfl
noncomputable def R4 (b:BkT) (H:Hp):List V->List Int->Prop:=LL fun v d=>∃ t,v=.ref t/\H t=some (.tup [.int d,.int (zen b d),.int (zem b d),.int (zdM b d)])
theorem R4.same {b:BkT} {H H':Hp} {xs:List V} {l:List Int} (h:R4 b H xs l) (s:Same H H'):R4 b H' xs l:=LL.imp (fun v e ⟨t,e1,e2⟩=>⟨t,e1,s _ _ e2⟩) h
theorem R4.put {b:BkT} {H:Hp} {xs ys zs:List V} {l:List Int} {p:Addr} (h:R4 b H xs l) (hp:H p=some (.lst ys)):R4 b (upd H p (.lst zs)) xs l:=LL.imp (fun v e ⟨t,e1,e2⟩=>⟨t,e1,by rw[zr (zau e2 hp (by intro z;cases z))];exact e2⟩) h
noncomputable def RF (H:Hp):List V->List Int->Prop:=LL fun v d=>∃ t ws,v=.ref t/\H t=some (.tup (.int d::ws))
theorem R4.rf {b:BkT} {H:Hp} {xs:List V} {l:List Int} (h:R4 b H xs l):RF H xs l:=LL.imp (fun v e ⟨t,e1,e2⟩=>⟨t,_,e1,e2⟩) h
theorem zrJ {K:W.Frag} {H:Hp} {xs:List V} {l:List (Int × Int)} (h:zA K H xs l):RF H xs (l.map (·.1)):=by
 induction h with
 | nil=>exact .nil
 | cons h _ ih=>exact .cons ⟨_,_,rfl,h⟩ ih
structure zm6 (ds:List Int) (d:Int) (n:Nat):Prop where
 le:n<=ds.length
 lo:∀ i x,i<n->ds[i]?=some x->x<=d
 hi:∀ i x,n<=i->ds[i]?=some x->d<x
theorem zm6.rows {l:List (Int × Int)} {d:Int} {n:Nat} (h:zm6 (l.map (·.1)) d n):Stills.Begun l d n :=
 ⟨by have:=h.le;rwa [yab] at this,fun i s hi hs=>h.lo i s.1 hi (by rw[yaj,hs];rfl),fun i s hi hs=>h.hi i s.1 hi (by rw[yaj,hs];rfl)⟩
theorem zcN {ds:List Int} (up:ds.Pairwise (·<·)) {i j:Nat} {s t:Int} (hs:ds[i]?=some s) (ht:ds[j]?=some t) (ij:i<j):s<t:=by
 obtain ⟨hi,rfl⟩:=yac.mp hs
 obtain ⟨hj,rfl⟩:=yac.mp ht
 exact yax.mp up i j hi hj ij
theorem ztq {b:BkT} {P:Int} {U:Int->Int} {ds:List Int} (mem:∀ d,d∈ds↔TDay b d) (up:ds.Pairwise (·<·)) {st e x:Int} {n:Nat} (hx:ds[n]?=some x) (h1:x<=st) (h2:st<=e) (h3:∀ y,ds[n+1]?=some y->e<=y):csum U (zas b P) st e=(U e-U st)*zas b P x:=by
 have none:∀ z,x<=z->z<e->∀ t,TDay b t->¬ (x<t/\t<=z):=fun z h4 h5 t ht q=>by
  obtain ⟨j,hj⟩:=yav.mp ((mem t).mpr ht)
  have jn:n<j:=by
   rcases ydh n j with c | c | c
   ·exact c
   ·subst c;rw[hx] at hj;have:=Option.some.inj hj;ac_rfl
   ·have:=zcN up hj hx c;ac_rfl
  have jl:=(yac.mp hj).1
  have hy:ds[n+1]?=some (ds[n+1]'(by ac_rfl)):=yaa (by ac_rfl)
  have hh:=h3 _ hy
  by_cases c:j=n+1
  ·subst c;rw[hj] at hy;have:=Option.some.inj hy;ac_rfl
  ·have:=zcN up hy hj (by ac_rfl);ac_rfl
 have e1:∀ z,x<=z->z<e->zas b P z=zas b P x:=fun z h4 h5=>ztj h4 (none z h4 h5)
 rcases Int.lt_or_le st e with c | c
 ·rw[znD h2 fun d d1 d2=>by rw[e1 d (by ac_rfl) d2,e1 st h1 c],e1 st h1 c]
 ·have:st=e:=by ac_rfl
  subst this
  rw[zil (ydz _),Int.sub_self,Int.zero_mul]
theorem ziO {K:W.Frag} {H:Hp} {xs ys:List V} {l r:List (Int × Int)} (h:zA K H xs l) (k:zA K H ys r):zA K H (xs++ys) (l++r):=by
 induction h with
 | nil=>exact k
 | cons h _ ih=>exact .cons h ih
end L2
namespace L2
open PySem
theorem zjK:∀ {xs ys:List Int},xs.Nodup->(∀ x∈xs,x∈ys)->xs.length<=ys.length
 | [],_,_,_=>ydb _
 | x::xs,ys,nd,h=>by
  have hx:=h x yas
  obtain ⟨nx,nd'⟩:=ybj.mp nd
  have:=zjK (ys:=ys.erase x) nd' fun z hz=>(ycm (fun (q:z=x)=>nx (by rw[<-q];exact hz))).mpr (h z (yam _ hz))
  rw[ybx hx] at this
  have:=ybp hx
  rw[ybc]
  ac_rfl
theorem zht:∀ (l:List (Int × Int)) (d:Int),upto l d=upto l (d-1)+Sby.sm l d
 | [],d=>by simp[upto,Sby.sm]
 | s::l,d=>by
  rw[zhw,zhw,zeH,zht l d]
  by_cases c:s.1=d
  ·rw[if_pos (by ac_rfl),if_neg (by ac_rfl),if_pos c];ac_rfl
  ·by_cases c2:s.1<=d
   ·rw[if_pos c2,if_pos (by ac_rfl),if_neg c];ac_rfl
   ·rw[if_neg c2,if_neg (by ac_rfl),if_neg c];ac_rfl
theorem znu:∀ es:List Er,(prs "rate" es).length+(prs "late" es).length+(prs "pay" es).length+(prs "due" es).length+2*(prs "still" es).length<=2*es.length
 | []=>by simp[prs]
 | e::es=>by
  have ih:=znu es
  have st:∀ w:Str,(prs w (e::es)).length=(if isW w e=true then 1 else 0)+(prs w es).length:=fun w=>by
   unfold prs
   by_cases c:isW w e=true
   ·rw[yan c,if_pos c];simp;ac_rfl
   ·rw[yap c,if_neg c];simp
  rw[st,st,st,st,st,ybc]
  obtain ⟨k,d,x⟩:=e
  have one:(if isW "rate" (k,d,x)=true then 1 else 0)+(if isW "late" (k,d,x)=true then 1 else 0)+(if isW "pay" (k,d,x)=true then 1 else 0)+(if isW "due" (k,d,x)=true then 1 else 0)+2*(if isW "still" (k,d,x)=true then 1 else 0)<=2:=by
   have one:∀ k:Ek,(if isW "rate" (k,0,0)=true then 1 else 0)+(if isW "late" (k,0,0)=true then 1 else 0)+(if isW "pay" (k,0,0)=true then 1 else 0)+(if isW "due" (k,0,0)=true then 1 else 0)+2*(if isW "still" (k,0,0)=true then 1 else 0)<=2:=fun k=>by cases k <;> decide
   exact one k
  ac_rfl
theorem zwB {b:BkT} (I:zbf b) {f:Int} (f0:0<=f) (g0:0<=b.g) (day:∀ e∈b.es,f<=e.2.1) (rt:∀ w:Str,(w = "rate" \/ w = "late")->∀ s∈prs w b.es,0<=s.2/\s.2<=1000000) (len:b.es.length<=31):BOk b:=by
 have pd:∀ w:Str,∀ s∈prs w b.es,f<=s.1:=fun w s hs=>by
  obtain ⟨e,he,rfl⟩:=yah.mp hs
  exact day e (yal.mp he).1
 have tb:∀ (w:Str) (t:List (Int × Int)),(w = "rate" \/ w = "late")->Stills.TabOf (prs w b.es) t/\t=(t.map (·.1)).map (fun d=>(d,Sums.valOf (prs w b.es) d))->(∀ s∈t,0<=s.1/\0<=s.2/\s.2<=1000000)/\t.length<=(prs w b.es).length:=fun w t hw ⟨T,e⟩=>by
  have nn:∀ s∈prs w b.es,0<=s.1/\0<=s.2/\s.2<=1000000:=fun s hs=>⟨by have:=pd w s hs;ac_rfl,rt w hw s hs⟩
  refine ⟨fun s hs=>?_,?_⟩
  ·have d0:0<=s.1:=T.nn (fun s hs=>(nn s hs).1) s hs
   rw[e] at hs
   obtain ⟨d,_,rfl⟩:=yah.mp hs
   exact ⟨d0,zmu nn d⟩
  ·have nd:(t.map (·.1)).Nodup:=by
    have:=T.up
    rw[<-ybm (f:=fun s:Int × Int=>s.1) (R:=(·<·))] at this
    exact Sby.zeb this
   have:=zjK nd fun k hk=>by
    obtain ⟨s,hs,e2⟩:=yah.mp hk
    obtain ⟨u,hu,e3⟩:=(T.days k).mp ⟨s,hs,e2.symm⟩
    exact yah.mpr ⟨u,hu,e3.symm⟩
   rwa [yab,yab] at this
 have tl:∀ {r l:List (Int × Int)},Sby.Tab r l->r.length<=l.length:=fun {r l} T=>by
  have:=zjK (Sby.zeb T.up) fun k hk=>(T.mem k).mp hk
  rwa [yab,yab] at this
 obtain ⟨r1,r2⟩:=tb "rate" b.rates (.inl rfl) I.rates
 obtain ⟨l1,l2⟩:=tb "late" b.lates (.inr rfl) I.lates
 have fr:∀ d,d<=mvd (prs "still" b.es) d:=fun d=>(ziq _ d).from_
 have wl:=znu b.es
 have dl:=tl I.dues
 have pl:=tl I.pays
 have jl:=Stills.zth I.spans.1 I.spans.2
 have ml:(mvp (mvd (prs "still" b.es)) (prs "due" b.es)).length=(prs "due" b.es).length:=yab ..
 refine ⟨I.rates.1.up,r1,I.lates.1.up,l1,I.pays.up,fun s hs=>?_,I.dues.up,fun s hs=>?_,I.spans.1,fun s hs=>?_,g0,by ac_rfl⟩
 ·obtain ⟨u,hu,e⟩:=yah.mp ((I.pays.mem s.1).mp (yay hs))
  have:=pd _ u hu
  ac_rfl
 ·obtain ⟨u,hu,e⟩:=yah.mp ((I.dues.mem s.1).mp (yay hs))
  obtain ⟨v,hv,rfl⟩:=yah.mp hu
  have:=pd _ v hv
  have:=fr v.1
  have e':mvd (prs "still" b.es) v.1=s.1:=e
  ac_rfl
 ·have lt:s.1<s.2:=I.spans.1.up s hs
  obtain ⟨u,hu,h1,h2⟩:=(I.spans.2 s.1).mp ⟨s,hs,ydz _,lt⟩
  have:=pd _ u hu
  ac_rfl
end L2
namespace L2
open PySem
noncomputable abbrev Q4:=Int × Int × Int × Int
noncomputable def ddE (es:List Er) (d:Int):Q4:=(Sby.sm (prs "out" es) d,Sby.sm (prs "fee" es) d,if d∈dys "turn" es then 1 else 0,Sby.sm (prs "pay" es) d)
noncomputable def ddo (b:BkT) (d:Int):Q4:=ddE b.es d
noncomputable def doD (u:Int) (q:Q4) (s:Int × Int):Int × Int :=
 let s1:=Dbt.step u .lend q.1 s.1 s.2
 let s2:=Dbt.step u .fee q.2.1 s1.1 s1.2
 let s3:=if q.2.2.1=1 then Dbt.step u .turn 0 s2.1 s2.2 else s2
 Dbt.step u .take q.2.2.2 s3.1 s3.2
theorem zuE {u:Int} {q:Q4} {s:Int × Int} (hu:0<u) (l0:0<=q.1) (g:Dbt.Good u s.1 s.2):Dbt.Good u (doD u q s).1 (doD u q s).2:=by
 unfold doD
 have g1:=Dbt.zdA (w:=.lend) hu (show Dbt.Okd .lend q.1 from l0) g
 have g2:=Dbt.zdA (w:=.fee) (x:=q.2.1) hu True.intro g1
 dsimp only
 split
 ·exact Dbt.zdA (w:=.take) hu True.intro (Dbt.zdA (w:=.turn) (x:=0) hu True.intro g2)
 ·exact Dbt.zdA (w:=.take) hu True.intro g2
theorem clamp {u m n:Int} (g:Dbt.Good u m n):Dbt.mn m (Dbt.mx 0 (n / u))=m:=by
 have h:=g.2
 unfold Dbt.mn
 rw[if_neg (by ac_rfl)]
theorem zlK {u:Int} {s:Int × Int} (g:Dbt.Good u s.1 s.2):doD u (0,0,0,0) s=s:=by
 obtain ⟨m,n⟩:=s
 have c:Dbt.mn m (Dbt.mx 0 (n / u))=m:=clamp g
 simp[doD,Dbt.step,c]
section
variable (U:Int->Int) (u:Int) (b:BkT)
noncomputable def stB:Nat->Int × Int
 | 0=>(0,0)
 | k+1=>let s:=doD u (ddo b k) (stB k);(s.1,s.2+(U (k+1)-U k)*zas b s.1 k)
noncomputable def stA (k:Nat):Int × Int:=doD u (ddo b k) (stB U u b k)
def zlw (d:Int):Prop:=ddo b d=(0,0,0,0)
end
structure AOk (U:Int->Int) (u:Int) (b:BkT):Prop where
 hu:0<u
 out0:∀ d,0<=Sby.sm (prs "out" b.es) d
 up:∀ d:Nat,U d<=U (d+1)
 ok:BOk b
section
variable {U:Int->Int} {u:Int} {b:BkT}
theorem lk0 (d:Int):0<=zdM b d:=by
 unfold zdM p0
 split
 ·exact ydz _
 ·split <;> ac_rfl
theorem zxz (O:BOk b) {P:Int} (p:0<=P) (d:Int):0<=zas b P d:=by
 unfold zas
 have h1:=O.rt d
 have h2:=O.lt d
 have h3:=lk0 (b:=b) d
 have h4:0<=mn P (zdM b d):=by unfold mn;split <;> ac_rfl
 have:=Int.mul_nonneg h1.1 p
 have:=Int.mul_nonneg h2.1 h4
 ac_rfl
theorem zt3 (d:Int):zas b 0 d=0:=by
 unfold zas
 have h3:=lk0 (b:=b) d
 have:mn 0 (zdM b d)=0:=by unfold mn;rw[if_neg (by ac_rfl)]
 rw[this]
 simp
theorem zlt (A:AOk U u b):∀ k,Dbt.Good u (stB U u b k).1 (stB U u b k).2
 | 0=>Dbt.good0 u
 | k+1=>by
  have g:=zuE (q:=ddo b k) A.hu (A.out0 k) (zlt A k)
  have w:0<=(U (k+1)-U k)*zas b (doD u (ddo b k) (stB U u b k)).1 k:=Int.mul_nonneg (by have:=A.up k;ac_rfl) (zxz A.ok g.1 k)
  exact Dbt.zdA (w:=.grow) A.hu (show Dbt.Okd .grow _ from w) g
theorem zul (A:AOk U u b) {k:Nat} (h:zlw b k):stA U u b k=stB U u b k:=by
 unfold stA
 rw[h]
 exact zlK (zlt A k)
theorem zqd (k:Nat):stB U u b (k+1)=((stA U u b k).1,(stA U u b k).2+(U (k+1)-U k)*zas b (stA U u b k).1 k):=rfl
theorem zoE (f:Int->Int) (a:Int):csum U f a (a+1)=(U (a+1)-U a)*f a:=by
 unfold csum Sums.sum
 rw[show (a+1-a).toNat=1 by ac_rfl]
 simp[Sums.S]
theorem run (A:AOk U u b) (s:Nat):∀ n:Nat,(∀ k:Nat,s<=k->k<s+n->zlw b k)->stB U u b (s+n)=((stB U u b s).1,(stB U u b s).2+csum U (zas b (stB U u b s).1) s (s+n:Nat))
 | 0,_=>by rw[zil (by ac_rfl)];simp
 | n+1,h=>by
  have ih:=run A s n fun k h1 h2=>h k h1 (by ac_rfl)
  rw[show s+(n+1)=(s+n)+1 from rfl,zqd,zul A (h (s+n) (by ac_rfl) (by ac_rfl)),ih]
  have e2:csum U (zas b (stB U u b s).1) s (((s+n)+1:Nat):Int)=csum U (zas b (stB U u b s).1) s ((s+n:Nat):Int)+(U (((s+n:Nat):Int)+1)-U ((s+n:Nat):Int))*zas b (stB U u b s).1 ((s+n:Nat):Int):=by
   rw[show (((s+n)+1:Nat):Int)=((s+n:Nat):Int)+1 by ac_rfl,zlF (a:=(s:Int)) (b:=((s+n:Nat):Int)+1) (c:=((s+n:Nat):Int)) (by ac_rfl) (by ac_rfl),zoE]
  rw[e2]
  exact Prod.ext rfl (Int.add_assoc ..)
theorem first (A:AOk U u b) {e:Int} (e0:0<=e) (h:∀ d,0<=d->d<e->zlw b d):stB U u b e.toNat=(0,0+csum U (zas b 0) 0 e):=by
 have r:=run A 0 e.toNat fun k _ h2=>h k (by ac_rfl) (by ac_rfl)
 rw[show ((0+e.toNat:Nat):Int)=e by ac_rfl,Nat.zero_add] at r
 exact r
theorem zw6 (A:AOk U u b) {e:Int} (e0:0<=e) (h:∀ d,0<=d->d<e->zlw b d):stB U u b e.toNat=(0,0):=by
 rw[first A e0 h]
 have:csum U (zas b 0) 0 e=0:=by
  unfold csum
  rw[Sums.znI (g:=fun _=>0) fun d _ _=>by rw[zt3];exact Int.mul_zero _]
  exact Sums.ztu _ _
 rw[this]
 rfl
theorem next (A:AOk U u b) {s e:Int} (s0:0<=s) (se:s<e) (h:∀ d,s<d->d<e->zlw b d):stB U u b e.toNat=((stA U u b s.toNat).1,(stA U u b s.toNat).2+csum U (zas b (stA U u b s.toNat).1) s e):=by
 have r:=run A (s.toNat+1) (e-s-1).toNat fun k h1 h2=>h k (by ac_rfl) (by ac_rfl)
 rw[show s.toNat+1+(e-s-1).toNat=e.toNat by ac_rfl,zqd] at r
 have e2:csum U (zas b (stA U u b s.toNat).1) s e=(U (s+1)-U s)*zas b (stA U u b s.toNat).1 s+csum U (zas b (stA U u b s.toNat).1) (s+1) e:=by
  rw[zlF (a:=s) (b:=e) (c:=s+1) (by ac_rfl) (by ac_rfl),zoE]
 rw[r,e2,show ((s.toNat:Nat):Int)=s by ac_rfl,show ((e.toNat:Nat):Int)=e by ac_rfl,show (((s.toNat+1:Nat)):Int)=s+1 by ac_rfl]
 exact Prod.ext rfl (Int.add_assoc ..)
end
theorem stored_new {l:List (Int × Int)} {k y:Int} (h:k ∉ l.map (·.1)):zal l k y=l++[(k,y)]:=by
 unfold zal
 rw[if_neg]
 intro z
 obtain ⟨p,hp,e⟩:=yce.mp z
 exact h (yah.mpr ⟨p,hp,by simpa using e⟩)
theorem zrg:∀ (l acc:List (Int × Int)),((acc++l).map (·.1)).Nodup->l.foldl (fun acc s=>zal acc s.1 s.2) acc=acc++l
 | [],acc,_=>by simp
 | s::l,acc,h=>by
  rw[ybq,stored_new]
  ·rw[zrg l (acc++[(s.1,s.2)]) (by simpa using h)]
   simp
  ·intro z
   rw[yau,ycj] at h
   exact h.2.2 s.1 z s.1 (by simp) rfl
theorem znv {l:List (Int × Int)} (h:(l.map (·.1)).Nodup):zdm l=l:=by
 have:=zrg l [] (by simpa using h)
 simpa [zdm] using this
theorem zuJ {r l:List (Int × Int)} (T:Sby.Tab r l):Sby.Tot r l:=⟨Sby.zeb T.up,T.mem,T.val⟩
theorem znl {r l:List (Int × Int)} (T:Sby.Tab r l) (k:Int):((lkI (zdm r) k).map V.int).getD (.int 0)=.int (Sby.sm l k):=by
 rw[znv (Sby.zeb T.up)]
 exact (zuJ T).look k
theorem zt7 {ns:List Int} (nd:ns.Nodup) (k:Int):((lkI (zdm (ns.map fun d=>(d,1))) k).map V.int).getD (.int 0)=.int (if k∈ns then 1 else 0):=by
 rw[znv (by rw[ybf,show ((fun x:Int × Int=>x.1) ∘ fun d:Int=>(d,(1:Int)))=id from rfl,List.map_id];exact nd)]
 unfold lkI
 by_cases c:k∈ns
 ·rw[if_pos c]
  have:(ns.map fun d=>(d,(1:Int))).find? (fun p=>decide (p.1=k))=some (k,1):=by
   clear nd
   induction ns with
   | nil=>cases c
   | cons n ns ih =>
    rw[ybi]
    by_cases e:n=k
    ·subst e;rw[yaw (by simp)]
    ·rw[yar (by simpa using e)]
     exact ih ((yak.mp c).resolve_left fun z=>e z.symm)
  rw[this];rfl
 ·rw[if_neg c,List.find?_eq_none.mpr]
  ·rfl
  ·intro p hp e
   obtain ⟨d,hd,rfl⟩:=yah.mp hp
   have:d=k:=by simpa using e
   exact c (this ▸ hd)
noncomputable def R5 (b:BkT) (H:Hp):List V->List Int->Prop:=LL fun v d=>∃ t,v=.ref t/\H t=some (.tup [.int d,.int (ddo b d).1,.int (ddo b d).2.1,.int (ddo b d).2.2.1,.int (ddo b d).2.2.2])
theorem R5.same {b:BkT} {H H':Hp} {xs:List V} {l:List Int} (h:R5 b H xs l) (s:Same H H'):R5 b H' xs l:=LL.imp (fun v e ⟨t,e1,e2⟩=>⟨t,e1,s _ _ e2⟩) h
def DDay (b:BkT) (d:Int):Prop:=d∈(b.outs++b.fees++b.pays).map (·.1)\/d∈b.turns
theorem zte {b:BkT} (I:zbf b) {d:Int} (h:¬ DDay b d):zlw b d:=by
 unfold DDay at h
 rw[yau,yau,yaf,yaf] at h
 have h1:d ∉ b.outs.map (·.1):=fun z=>h (.inl (.inl (.inl z)))
 have h2:d ∉ b.fees.map (·.1):=fun z=>h (.inl (.inl (.inr z)))
 have h3:d ∉ b.pays.map (·.1):=fun z=>h (.inl (.inr z))
 have h4:d ∉ dys "turn" b.es:=fun z=>h (.inr ((I.turns.mem d).mpr z))
 unfold zlw ddo ddE
 rw[if_neg h4,Sby.zeA (fun z=>h1 ((I.outs.mem d).mpr z)),Sby.zeA (fun z=>h2 ((I.fees.mem d).mpr z)),Sby.zeA (fun z=>h3 ((I.pays.mem d).mpr z))]
noncomputable def DbL (K:W.Frag) (u:Int) (f:Int->Int × Int) (p:Addr) (G H:Hp):List V->List Int->Prop:=LL fun v d=>∃ x dx,v=.ref x/\(x≠p/\G x=none)/\Deb K H x dx u (f d).1 (f d).2
theorem DbL.same {K:W.Frag} {u:Int} {f:Int->Int × Int} {p:Addr} {G H H':Hp} {xs:List V} {l:List Int} (h:DbL K u f p G H xs l) (s:Same H H'):DbL K u f p G H' xs l:=LL.imp (fun v e ⟨x,dx,e1,e2,e3⟩=>⟨x,dx,e1,e2,s _ _ e3⟩) h
theorem DbL.old {K:W.Frag} {u:Int} {f:Int->Int × Int} {p:Addr} {G G' H:Hp} {xs:List V} {l:List Int} (h:DbL K u f p G H xs l) (s:Same G' G):DbL K u f p G' H xs l:=LL.imp (fun v e ⟨x,dx,e1,e2,e3⟩=>⟨x,dx,e1,⟨e2.1,zM s e2.2⟩,e3⟩) h
theorem DbL.put {K:W.Frag} {u:Int} {f:Int->Int × Int} {p:Addr} {G H:Hp} {o:HO} {xs:List V} {l:List Int} (h:DbL K u f p G H xs l):DbL K u f p G (upd H p o) xs l:=LL.imp (fun v e ⟨x,dx,e1,e2,e3⟩=>⟨x,dx,e1,e2,by show (upd H p o) x=_;rw[zr e2.1];exact e3⟩) h
theorem DbL.putL {K:W.Frag} {u:Int} {f:Int->Int × Int} {p q:Addr} {G H:Hp} {o:HO} {xs ys:List V} {l:List Int} (h:DbL K u f p G H xs l) (hq:H q=some (.lst ys)):DbL K u f p G (upd H q o) xs l:=LL.imp (fun v e ⟨x,dx,e1,e2,e3⟩=>⟨x,dx,e1,e2,Deb.putL e3 hq⟩) h
theorem zqw {l:List (Int × V)} {k:Int} {y:V} (h:k ∉ l.map (·.1)):za9 l k y=l++[(k,y)]:=by
 unfold za9
 rw[if_neg]
 intro z
 obtain ⟨p,hp,e⟩:=yce.mp z
 exact h (yah.mpr ⟨p,hp,by simpa using e⟩)
theorem zrK:∀ (l acc:List (Int × V)),((acc++l).map (·.1)).Nodup->l.foldl (fun acc s=>za9 acc s.1 s.2) acc=acc++l
 | [],acc,_=>by simp
 | s::l,acc,h=>by
  rw[ybq,zqw]
  ·rw[zrK l (acc++[(s.1,s.2)]) (by simpa using h)]
   simp
  ·intro z
   rw[yau,ycj] at h
   exact h.2.2 s.1 z s.1 (by simp) rfl
theorem zsX {l:List (Int × V)} (h:(l.map (·.1)).Nodup):zsz l=l:=by
 have:=zrK l [] (by simpa using h)
 simpa [zsz] using this
theorem zrn:∀ {ds:List Int} {ws:List V},ds.length=ws.length->ds.Nodup->∀ {i:Nat} {d:Int} {v:V},ds[i]?=some d->ws[i]?=some v->lkV (ds.zip ws) d=some v
 | [],_,_,_,i,d,v,e,_=>by simp at e
 | x::ds,[],len,_,_,_,_,_,_=>by simp at len
 | x::ds,y::ws,len,nd,i,d,v,e1,e2=>by
  unfold lkV
  rw[List.zip_cons_cons]
  cases i with
  | zero =>
   cases e1;cases e2
   rw[yaw (by simp)];rfl
  | succ i =>
   have hd:d∈ds:=yae e1
   obtain ⟨n1,n2⟩:=ybj.mp nd
   rw[yar (by simp;intro z;exact n1 (z ▸ hd))]
   exact zrn (by simpa using len) n2 e1 e2
structure zws (U:Int->Int) (u:Int) (b:BkT):Prop where
 is:zbf b
 ok:AOk U u b
 sz:b.outs.length+b.fees.length+b.pays.length+b.turns.length<=40
 d0:∀ d,DDay b d->0<=d
 u1:u<1152921504606846976
def DE (es:List Er) (d:Int):Prop:=∃ e∈es,e.2.1=d/\inV (.str e.1.word) [.str "out", .str "fee", .str "turn", .str "pay"]=true
def zdo (H:Hp) (es fs:List Er) (l:List (Int × V)):Prop:=∀ k,(DE fs k/\∃ t,lkV l k=some (.ref t)/\H t=some (.tup [.int (ddE es k).1,.int (ddE es k).2.1,.int (ddE es k).2.2.1,.int (ddE es k).2.2.2]))\/(¬ DE fs k/\lkV l k=none)
theorem zdo.same {H H':Hp} {es fs:List Er} {l:List (Int × V)} (h:zdo H es fs l) (s:Same H H'):zdo H' es fs l:=fun k=>by
 rcases h k with ⟨h1,t,h2,h3⟩ | h1
 ·exact .inl ⟨h1,t,h2,s _ _ h3⟩
 ·exact .inr h1
theorem zvj {es:List Er} {d:Int} (h:¬ DE es d):ddE es d=(0,0,0,0):=by
 have n:∀ w:Str,(w = "out" \/ w = "fee" \/ w = "turn" \/ w = "pay")->∀ e∈es.filter (isW w),e.2.1≠d:=fun w hw e he z=>by
  obtain ⟨h1,h2⟩:=yal.mp he
  have ew:e.1.word=w:=V.str.inj (of_decide_eq_true h2)
  refine h ⟨e,h1,z,?_⟩
  rw[ew]
  rcases hw with rfl | rfl | rfl | rfl <;> decide
 have k:∀ w:Str,(w = "out" \/ w = "fee" \/ w = "turn" \/ w = "pay")->d ∉ (prs w es).map (·.1):=fun w hw z=>by
  obtain ⟨s,hs,e⟩:=yah.mp z
  obtain ⟨x,hx,rfl⟩:=yah.mp hs
  exact n w hw x hx e
 unfold ddE
 rw[Sby.zeA (k "out" (.inl rfl)),Sby.zeA (k "fee" (.inr (.inl rfl))),Sby.zeA (k "pay" (.inr (.inr (.inr rfl)))),if_neg]
 intro z
 obtain ⟨x,hx,e⟩:=yah.mp z
 exact n "turn" (.inr (.inr (.inl rfl))) x hx e
theorem zs7 {α:Type} {lo:Int} {n:Nat} {ix:List Nat} {te:TE} {σ:St} {l:Addr} {H:Hp} {R:Hp->Prop} (hl:H l=none) (hz:n<=sizeLine) (es:List α) (len:es.length=n)
  (P:Hp->V->α->Prop) (mono:∀ v e H1 H2,Same H1 H2->P H1 v e->P H2 v e) (put:∀ v e H1 ys zs,H1 l=some (.lst ys)->P H1 v e->P (upd H1 l (.lst zs)) v e)
  (he:∀ (i:Nat) e H' Q',i<n->es[i]?=some e->Same H H'->(∀ v H2,Same H' H2->P H2 v e->Q' v H2)->te (some (.int (lo+i))::capts σ ix) H' Q')
  (fin:∀ ys H',Same H H'->H' l=some (.lst ys)->LL (P H') ys es->R H') :
  ∃ W:Nat->Nat->List V->Hp->Prop,(∃ m,W 0 m [] (upd H l (.lst [])))/\Turns ix te σ (Itr lo n) l R W:=by
 refine ⟨fun i m ys H'=>m=n-i/\i<=n/\LL (P H') ys (es.take i)/\Same H H'/\H' l=some (.lst ys),⟨n,by simp,ydb _,.nil,ze hl _,zg⟩,?_⟩
 rintro i m ys H' ⟨rfl,hi,hp,sH,hL⟩
 refine ⟨hL,?_⟩
 by_cases hlt:i<n
 ·have yl:=hp.length
  rw[ybe] at yl
  refine .inr ⟨hlt,by ac_rfl,fun x H2 y=>?_⟩
  obtain ⟨rfl,rfl⟩:=y
  have eP:es[i]?=some (es[i]'(by ac_rfl)):=yaa (by ac_rfl)
  generalize es[i]'(by ac_rfl)=e at eP
  refine he i e _ _ hlt eP sH fun v H3 s3 hv=>⟨s3 _ _ hL,n-(i+1),by ac_rfl,rfl,hlt,?_,zN (sH.trans s3) hl,zg⟩
  rw[ybb,eP]
  exact (hp.imp fun v e q=>put v e H3 ys _ (s3 _ _ hL) (mono v e _ _ s3 q)).push (put v e H3 ys _ (s3 _ _ hL) hv)
 ·rw[yaz (by ac_rfl)] at hp
  exact .inl ⟨by show n<=i;ac_rfl,fin ys H' sH hL hp⟩
theorem zdo.step {H:Hp} {es fs:List Er} {l:List (Int × V)} {e:Er} {t:Addr} (h:zdo H es fs l) (ht:H t=some (.tup [.int (ddE es e.2.1).1,.int (ddE es e.2.1).2.1,.int (ddE es e.2.1).2.2.1,.int (ddE es e.2.1).2.2.2])) (w:inV (.str e.1.word) [.str "out", .str "fee", .str "turn", .str "pay"]=true):zdo H es (fs++[e]) (za9 l e.2.1 (.ref t)):=fun k=>by
 rw[zsF]
 by_cases c:k=e.2.1
 ·rw[if_pos c]
  exact .inl ⟨⟨e,by simp,c.symm,w⟩,t,rfl,by rw[c];exact ht⟩
 ·rw[if_neg c]
  rcases h k with ⟨⟨x,hx,h1⟩,h2⟩ | ⟨h1,h2⟩
  ·exact .inl ⟨⟨x,yaf.mpr (.inl hx),h1⟩,h2⟩
  ·refine .inr ⟨fun ⟨x,hx,h3,h4⟩=>?_,h2⟩
   rcases yaf.mp hx with hx | hx
   ·exact h1 ⟨x,hx,h3,h4⟩
   ·have:x=e:=by simpa using hx
    exact c (by rw[<-h3,this])
theorem zdo.skip {H:Hp} {es fs:List Er} {l:List (Int × V)} {e:Er} (h:zdo H es fs l) (w:inV (.str e.1.word) [.str "out", .str "fee", .str "turn", .str "pay"]=false):zdo H es (fs++[e]) l:=fun k=>by
 rcases h k with ⟨⟨x,hx,h1⟩,h2⟩ | ⟨h1,h2⟩
 ·exact .inl ⟨⟨x,yaf.mpr (.inl hx),h1⟩,h2⟩
 ·refine .inr ⟨fun ⟨x,hx,h3,h4⟩=>?_,h2⟩
  rcases yaf.mp hx with hx | hx
  ·exact h1 ⟨x,hx,h3,h4⟩
  ·have:x=e:=by simpa using hx
   rw[this,w] at h4
   cases h4
theorem zdo.put {P:Program} {w:World} {H:Hp} {es fs:List Er} {l l0:List (Int × V)} {d:Addr} {o:HO} (h:zdo H es fs l) (hd:H d=some (zbi P w d l0)):zdo (upd H d o) es fs l:=fun k=>by
 rcases h k with ⟨h1,t,h2,h3⟩ | h1
 ·exact .inl ⟨h1,t,h2,by rw[zr (zau h3 hd (by intro z;unfold zbi at z;cases z))];exact h3⟩
 ·exact .inr h1
theorem zrt (d:Int):∀ ns:List Int,inV (.int d) (ns.map V.int)=decide (d∈ns)
 | []=>rfl
 | n::ns=>by
  have e1:inV (.int d) ((n::ns).map V.int)=(eqV (.int n) (.int d) || inV (.int d) (ns.map V.int)):=rfl
  have e2:eqV (.int n) (.int d)=decide (n=d):=by first | rfl | simp[eqV]
  rw[e1,e2,zrt d ns]
  by_cases c:n=d
  ·subst c;simp
  ·have c':¬ d=n:=fun z=>c z.symm
   simp[c,c']
theorem zuc (ns:List Int):(ns.map V.int).all zf8=true:=List.all_eq_true.mpr fun v hv=>by
 obtain ⟨n,_,rfl⟩:=yah.mp hv
 rfl
end L2
namespace L2
open PySem PySem.Spec PyProof.Rows
end L2
namespace L2
open PySem
noncomputable def rtE (es:List Er) (d:Int):Int:=if Spans.isIn (prs "still" es) d then 0 else Sums.valOf (prs "rate" es) d
noncomputable def ltE (es:List Er) (d:Int):Int:=if Spans.isIn (prs "still" es) d then 0 else Sums.valOf (prs "late" es) d
noncomputable def lkE (g:Int) (es:List Er) (d:Int):Int:=if Spans.isIn (prs "still" es) d then 0 else p0 (upto (mvp (mvd (prs "still" es)) (prs "due" es)) (d-g)-upto (prs "pay" es) d)
noncomputable def zcb (g:Int) (es:List Er) (P d:Int):Int:=rtE es d*P+ltE es d*mn P (lkE g es d)
theorem zl2 {b:BkT} (I:zbf b) (P d:Int):zas b P d=zcb b.g b.es P d:=by
 unfold zas zcb zen zem zdM rtE ltE lkE
 rw[Stills.zuf I.spans.2 d,I.rates.1.val d,I.lates.1.val d,zp6 I.dues,zp6 I.pays]
noncomputable def stE (U:Int->Int) (u g:Int) (es:List Er):Nat->Int × Int
 | 0=>(0,0)
 | k+1=>let s:=doD u (ddE es k) (stE U u g es k);(s.1,s.2+(U (k+1)-U k)*zcb g es s.1 k)
noncomputable def saE (U:Int->Int) (u g:Int) (es:List Er) (k:Nat):Int × Int:=doD u (ddE es k) (stE U u g es k)
theorem zvq {U:Int->Int} {u:Int} {b:BkT} (I:zbf b):∀ k,stB U u b k=stE U u b.g b.es k
 | 0=>rfl
 | k+1=>by
  show (let s:=doD u (ddE b.es k) (stB U u b k);(s.1,s.2+(U (k+1)-U k)*zas b s.1 k))=_
  rw[zvq I k]
  dsimp only
  rw[zl2 I]
  rfl
theorem zvm {U:Int->Int} {u:Int} {b:BkT} (I:zbf b) (k:Nat):stA U u b k=saE U u b.g b.es k:=by
 show doD u (ddE b.es k) (stB U u b k)=_
 rw[zvq I k]
 rfl
theorem zny {U:Int->Int} {u g:Int} {es fs:List Er}:∀ n:Nat,(∀ d:Nat,d<n->ddE es d=ddE fs d)->(∀ (P:Int) (d:Nat),d<n->zcb g es P d=zcb g fs P d)->stE U u g es n=stE U u g fs n
 | 0,_,_=>rfl
 | n+1,h1,h2=>by
  show (let s:=doD u (ddE es n) (stE U u g es n);(s.1,s.2+(U (n+1)-U n)*zcb g es s.1 n))=_
  rw[zny n (fun d hd=>h1 d (by ac_rfl)) (fun P d hd=>h2 P d (by ac_rfl)),h1 n (by ac_rfl)]
  dsimp only
  rw[h2 _ n (by ac_rfl)]
  rfl
theorem zix (w:Str) (es fs:List Er):prs w (es++fs)=prs w es++prs w fs:=by
 unfold prs
 rw[ybd,yau]
structure OkA (f:Int) (e:Er):Prop where
 day:f<=e.2.1
 rt:isW "rate" e=true->0<=e.2.2/\e.2.2<=1000000
 lt:isW "late" e=true->0<=e.2.2/\e.2.2<=1000000
 out:isW "out" e=true->0<=e.2.2
theorem zta:∀ es:List Er,(prs "out" es).length+(prs "fee" es).length+(prs "pay" es).length+(dys "turn" es).length<=es.length
 | []=>by simp[prs,dys]
 | e::es=>by
  have ih:=zta es
  have st:∀ w:Str,(prs w (e::es)).length=(if isW w e=true then 1 else 0)+(prs w es).length:=fun w=>by
   unfold prs
   by_cases c:isW w e=true
   ·rw[yan c,if_pos c];simp;ac_rfl
   ·rw[yap c,if_neg c];simp
  have sd:(dys "turn" (e::es)).length=(if isW "turn" e=true then 1 else 0)+(dys "turn" es).length:=by
   unfold dys
   by_cases c:isW "turn" e=true
   ·rw[yan c,if_pos c];simp;ac_rfl
   ·rw[yap c,if_neg c];simp
  rw[st,st,st,sd,ybc]
  obtain ⟨k,d,x⟩:=e
  have one:(if isW "out" (k,d,x)=true then 1 else 0)+(if isW "fee" (k,d,x)=true then 1 else 0)+(if isW "pay" (k,d,x)=true then 1 else 0)+(if isW "turn" (k,d,x)=true then 1 else 0)<=1:=by
   have one:∀ k:Ek,(if isW "out" (k,0,0)=true then 1 else 0)+(if isW "fee" (k,0,0)=true then 1 else 0)+(if isW "pay" (k,0,0)=true then 1 else 0)+(if isW "turn" (k,0,0)=true then 1 else 0)<=1:=fun k=>by cases k <;> decide
   exact one k
  ac_rfl
theorem zvS {l:List (Int × Int)} (h:∀ s∈l,0<=s.2) (k:Int):0<=Sby.sm l k:=by
 induction l with
 | nil=>exact ydz _
 | cons s l ih =>
  rw[zeH]
  have:=ih fun s hs=>h s (yam _ hs)
  have:=h s (yas ..)
  split <;> ac_rfl
theorem zvC {b:BkT} {U:Int->Int} {u:Int} (I:zbf b) {f:Int} (f0:0<=f) (g0:0<=b.g) (o:∀ e∈b.es,OkA f e) (len:b.es.length<=31) (up:∀ d:Nat,U d<=U (d+1)) (hu:0<u) (u1:u<1152921504606846976):zws U u b:=by
 have BO:=zwB I f0 g0 (fun e he=>(o e he).day) (fun w hw s hs=>by
  obtain ⟨e,he,rfl⟩:=yah.mp hs
  obtain ⟨h1,h2⟩:=yal.mp he
  rcases hw with rfl | rfl
  ·exact (o e h1).rt h2
  ·exact (o e h1).lt h2) len
 have pd:∀ w:Str,∀ s∈prs w b.es,f<=s.1:=fun w s hs=>by
  obtain ⟨e,he,rfl⟩:=yah.mp hs
  exact (o e (yal.mp he).1).day
 have tl:∀ {r l:List (Int × Int)},Sby.Tab r l->r.length<=l.length:=fun {r l} T=>by
  have:=zjK (Sby.zeb T.up) fun k hk=>(T.mem k).mp hk
  rwa [yab,yab] at this
 have t1:=tl I.outs
 have t2:=tl I.fees
 have t3:=tl I.pays
 have t4:=zjK (Sby.zeb I.turns.up) fun k hk=>(I.turns.mem k).mp hk
 have wl:=zta b.es
 refine ⟨I,⟨hu,zvS fun s hs=>?_,up,BO⟩,by ac_rfl,fun d hd=>?_,u1⟩
 ·obtain ⟨e,he,rfl⟩:=yah.mp hs
  obtain ⟨h1,h2⟩:=yal.mp he
  exact (o e h1).out h2
 ·rcases hd with hd | hd
  ·rw[yau,yau,yaf,yaf] at hd
   have k:∀ {r:List (Int × Int)} {w:Str},Sby.Tab r (prs w b.es)->d∈r.map (·.1)->0<=d:=fun {r w} T hr=>by
    obtain ⟨s,hs,e⟩:=yah.mp ((T.mem d).mp hr)
    have:=pd _ s hs
    ac_rfl
   rcases hd with (hd | hd) | hd
   ·exact k I.outs hd
   ·exact k I.fees hd
   ·exact k I.pays hd
  ·obtain ⟨e,he,e1⟩:=yah.mp ((I.turns.mem d).mp hd)
   have:=(o e (yal.mp he).1).day
   ac_rfl
end L2
namespace L2
open PySem Sums
theorem zvH (w:Str) (es:List Er) (e:Er):prs w (es++[e])=prs w es++if isW w e=true then [e.2] else []:=by
 rw[zix]
 congr 1
 unfold prs
 by_cases c:isW w e=true
 ·rw[yan c,if_pos c];rfl
 ·rw[yap c,if_neg c];rfl
theorem zuD {l:List (Int × Int)} {d e:Int} (de:d<e) (h:∀ x,d<=x->x<e->Spans.Cov l x):mvd l e=mvd l d:=by
 have a:=ziq l d
 have b:=ziq l e
 refine zmo { from_:=by have:=b.from_;ac_rfl,all:=fun x h1 h2=>?_,out:=b.out }
 by_cases c:x<e
 ·exact h x h1 c
 ·exact b.all x (by ac_rfl) h2
theorem zt6 {l:List (Int × Int)} {d:Int} (h:¬ Spans.Cov l d):mvd l d=d:=(zmo (m:=d) { from_:=ydz _,all:=fun x h1 h2=>by ac_rfl,out:=h }).symm
theorem zjN {d:Int}:∀ (t:List (Int × Int)) (st:Int × Int),(∀ r∈t,¬ (st.1<=r.1/\r.1<=d))->t.foldl (vstep d) st=st
 | [],_,_=>rfl
 | r::t,st,h=>by
  rw[ybq]
  have:vstep d st r=st:=by unfold vstep;rw[if_neg (h r yas)]
  rw[this]
  exact zjN t st fun x hx=>h x (yam _ hx)
theorem zql {d M:Int}:∀ (t:List (Int × Int)) (st:Int × Int),(∀ r∈t,r.1<=d->r.1<=M)->st.1<=M->(t.foldl (vstep d) st).1<=M
 | [],_,_,h=>h
 | r::t,st,p,h=>by
  rw[ybq]
  refine zql t _ (fun x hx=>p x (yam _ hx)) ?_
  unfold vstep
  split
  ·exact p r yas (by ac_rfl)
  ·exact h
theorem zv1 {w:Str} {es:List Er} {d:Int} (h:∀ e∈es,isW w e=true->¬ e.2.1<=d):valOf (prs w es) d=0:=by
 unfold valOf
 rw[zjN _ _ fun r hr=>?_]
 obtain ⟨e,he,rfl⟩:=yah.mp hr
 obtain ⟨h1,h2⟩:=yal.mp he
 exact fun z=>h e h1 h2 z.2
theorem zwG {w:Str} {es:List Er} {d:Int} {k:Nat} {e:Er} (he:es[k]?=some e) (e0:0<=e.2.1) (hw:isW w e=true) (hd:e.2.1<=d) (top:∀ (i:Nat) e',es[i]?=some e'->isW w e'=true->e'.2.1<=d->e'.2.1<e.2.1\/(e'.2.1=e.2.1/\i<=k)):valOf (prs w es) d=e.2.2:=by
 have il:=(yac.mp he).1
 have ee:es=es.take k++([e]++es.drop (k+1)):=by
  have:=(yac.mp he).2
  rw[List.singleton_append,<-this,<-List.drop_eq_getElem_cons il,List.take_append_drop]
 have pe:prs w es=prs w (es.take k)++(e.2::prs w (es.drop (k+1))):=by
  conv=>lhs;rw[ee]
  rw[zix,zix]
  have:prs w [e]=[e.2]:=by unfold prs;rw[yan hw];rfl
  rw[this]
  rfl
 unfold valOf
 rw[pe,yck,ybq]
 have a:=zql (d:=d) (M:=e.2.1) (prs w (es.take k)) (-1,0) (fun r hr rd=>by
  obtain ⟨e',he',rfl⟩:=yah.mp hr
  obtain ⟨h1,h2⟩:=yal.mp he'
  obtain ⟨i,hi⟩:=yav.mp (List.mem_of_mem_take h1)
  have:=top i e' hi h2 rd
  ac_rfl) (by show (-1:Int)<=e.2.1;ac_rfl)
 have b:vstep d ((prs w (es.take k)).foldl (vstep d) (-1,0)) e.2=e.2:=by unfold vstep;rw[if_pos ⟨a,hd⟩]
 rw[b,zjN _ _ fun r hr=>?_]
 obtain ⟨e',he',rfl⟩:=yah.mp hr
 obtain ⟨h1,h2⟩:=yal.mp he'
 obtain ⟨i,hi⟩:=yav.mp h1
 rw[List.getElem?_drop] at hi
 intro z
 have:=top _ e' hi h2 z.2
 ac_rfl
theorem zfk {l:List (Int × Int)} {x y:Int} (xy:x<=y) (h:∀ s∈l,¬ (x<s.1/\s.1<=y)):upto l y=upto l x:=by
 unfold upto
 rw[yca (q:=fun s=>decide (s.1<=x)) fun s hs=>?_]
 have:=h s hs
 exact decide_eq_decide.mpr (by ac_rfl)
theorem zsb {l:List (Int × Int)} {x y:Int} (xy:x<=y) (h:∀ s∈l,¬ (x<s.1/\s.1<=y)/\¬ (x<s.2/\s.2<=y)):Spans.isIn l y=Spans.isIn l x:=by
 rw[Bool.eq_iff_iff,Spans.zaC,Spans.zaC]
 constructor
 ·rintro ⟨s,hs,h1,h2⟩
  have:=h s hs
  exact ⟨s,hs,by ac_rfl,by ac_rfl⟩
 ·rintro ⟨s,hs,h1,h2⟩
  have:=h s hs
  exact ⟨s,hs,by ac_rfl,by ac_rfl⟩
theorem zeJ {P:Int->Prop} {es:List Er} (h:∀ e∈es,P e.2.1) (w:Str):∀ s∈prs w es,P s.1:=fun s hs=>by
 obtain ⟨e,he,rfl⟩:=yah.mp hs
 exact h e (yal.mp he).1
theorem zuG {g P x z:Int} {es:List Er} (xz:x<=z) (h1:∀ e∈es,¬ (x<e.2.1/\e.2.1<=z)) (h2:∀ s∈prs "still" es,¬ (x<s.2/\s.2<=z)) (h3:∀ s∈prs "due" es,¬ (x<mvd (prs "still" es) s.1+g/\mvd (prs "still" es) s.1+g<=z)):zcb g es P z=zcb g es P x:=by
 have d1:=fun w=>zeJ (P:=fun y=>¬ (x<y/\y<=z)) h1 w
 have si:Spans.isIn (prs "still" es) z=Spans.isIn (prs "still" es) x:=zsb xz fun s hs=>⟨d1 _ s hs,h2 s hs⟩
 have v:∀ w,valOf (prs w es) z=valOf (prs w es) x:=fun w=>(Stills.zls xz (d1 w)).symm
 unfold zcb rtE ltE lkE
 rw[si,v,v,zfk (l:=prs "pay" es) xz (d1 _),zfk (l:=mvp (mvd (prs "still" es)) (prs "due" es)) (x:=x-g) (y:=z-g) (by ac_rfl) fun s hs=>?_]
 obtain ⟨r,hr,rfl⟩:=yah.mp hs
 have:=h3 r hr
 show ¬ (x-g<mvd (prs "still" es) r.1/\mvd (prs "still" es) r.1<=z-g)
 ac_rfl
theorem ztS {es:List Er} {d:Int} (h:∀ e∈es,e.2.1≠d):ddE es d=(0,0,0,0):=by
 have z:∀ w,Sby.sm (prs w es) d=0:=fun w=>by
  unfold Sby.sm
  rw[ybv.mpr fun s hs=>?_]
  ·rfl
  ·have:=zeJ (P:=fun y=>y≠d) h w s hs
   simpa using this
 unfold ddE
 rw[z,z,z,if_neg]
 intro q
 obtain ⟨e,he,rfl⟩:=yah.mp q
 exact h e (yal.mp he).1 rfl
noncomputable def cen (es:List Er) (z:Int):Int:=upto (prs "out" es) z+upto (prs "fee" es) z-upto (prs "pay" es) z
theorem zuF {es:List Er} {x y:Int} (xy:x<=y) (h:∀ e∈es,¬ (x<e.2.1/\e.2.1<=y)):cen es y=cen es x:=by
 have d1:=fun w=>zeJ (P:=fun t=>¬ (x<t/\t<=y)) h w
 unfold cen
 rw[zfk xy (d1 _),zfk xy (d1 _),zfk xy (d1 _)]
theorem zuI {es:List Er} {x:Int} (h:∀ e∈es,x<e.2.1):cen es x=0:=by
 have d1:=fun w=>zeJ (P:=fun t=>x<t) h w
 unfold cen
 rw[zff (d1 _),zff (d1 _),zff (d1 _)]
 rfl
theorem ztn (u:Int) (q:Q4) (s:Int × Int):(doD u q s).2=s.2+u*(q.1+q.2.1-q.2.2.2):=by
 have t:∀ (w:Dbt.Wd) (x m n:Int),(Dbt.step u w x m n).2=n+u*Dbt.cents w x+Dbt.grown w x:=Dbt.zsJ u
 unfold doD
 dsimp only
 rw[t,Int.mul_sub,Int.mul_add]
 have e:∀ c:Prop,∀ _:Decidable c,∀ s2:Int × Int,(if c then Dbt.step u .turn 0 s2.1 s2.2 else s2).2=s2.2:=fun c _ s2=>by
  split <;> rfl
 rw[e,t,t]
 simp only[Dbt.cents,Dbt.grown,Int.mul_neg]
 ac_rfl
structure Edgs (g:Int) (es:List Er) (L:Int) (ds:List Int):Prop where
 up:ds.Pairwise (·<·)
 mem:∀ d,d∈ds↔d<=L/\(d=L\/d∈es.map (fun e:Er=>e.2.1)\/d∈(prs "still" es).map (·.2)\/d∈(prs "due" es).map (fun s=>mvd (prs "still" es) s.1+g))
section
variable {g L:Int} {es:List Er} {ds:List Int}
theorem Edgs.gap (E:Edgs g es L ds) {k:Nat} {x y:Int} (hx:ds[k]?=some x) (hy:ds[k+1]?=some y):x<y/\y<=L/\∀ d,x<d->d<y->d ∉ ds:=by
 have lt:∀ {i j:Nat} {a b:Int},ds[i]?=some a->ds[j]?=some b->i<j->a<b:=fun {i j a b} hi hj ij=>by
  obtain ⟨h1,rfl⟩:=yac.mp hi
  obtain ⟨h2,rfl⟩:=yac.mp hj
  exact yax.mp E.up i j h1 h2 ij
 refine ⟨lt hx hy (by ac_rfl),((E.mem y).mp (yae hy)).1,fun d h1 h2 hd=>?_⟩
 obtain ⟨i,hi⟩:=yav.mp hd
 rcases ydo k i with c | c
 ·rcases ydo i (k+1) with c2 | c2
  ·ac_rfl
  ·rcases Nat.lt_or_eq_of_le c2 with c3 | rfl
   ·have:=lt hy hi c3
    ac_rfl
   ·have:=Option.some.inj (hy.symm.trans hi)
    ac_rfl
 ·rcases Nat.lt_or_eq_of_le c with c3 | rfl
  ·have:=lt hi hx c3
   ac_rfl
  ·have:=Option.some.inj (hx.symm.trans hi)
   ac_rfl
theorem Edgs.first (E:Edgs g es L ds) {x:Int} (hx:ds[0]?=some x):∀ e∈es,x<=e.2.1:=fun e he=>by
 rcases Int.lt_or_le e.2.1 x with c | c
 ·have xl:=((E.mem x).mp (yae hx)).1
  have m:=(E.mem e.2.1).mpr ⟨by ac_rfl,.inr (.inl (yay (f:=fun e:Er=>e.2.1) he))⟩
  obtain ⟨i,hi⟩:=yav.mp m
  obtain ⟨h1,e1⟩:=yac.mp hi
  obtain ⟨h2,e2⟩:=yac.mp hx
  rcases ydo 0 i with c2 | c2
  ·have:=yax.mp E.up 0 i h2 h1 c2
   ac_rfl
  ·obtain rfl:i=0:=by ac_rfl
   ac_rfl
 ·exact c
theorem Edgs.last (E:Edgs g es L ds) {x:Int} {k:Nat} (hx:ds[k]?=some x) (hk:ds[k+1]?=none):x=L:=by
 have m:=(E.mem L).mpr ⟨ydz _,.inl rfl⟩
 obtain ⟨i,hi⟩:=yav.mp m
 obtain ⟨h1,e1⟩:=yac.mp hi
 obtain ⟨h2,e2⟩:=yac.mp hx
 have xl:=((E.mem x).mp (yae hx)).1
 have:=ybw.mp hk
 rcases ydo i k with c | c
 ·have:=yax.mp E.up i k h1 h2 c
  ac_rfl
 ·obtain rfl:i=k:=by ac_rfl
  ac_rfl
end
theorem zuw {U:Int->Int} {u:Int} {b:BkT} {L x y:Int} {ds:List Int} {k:Nat} (I:zbf b) (A:AOk U u b) (E:Edgs b.g b.es L ds) (x0:0<=x) (hx:ds[k]?=some x) (hy:ds[k+1]?=some y) :
  stB U u b y.toNat=((stA U u b x.toNat).1,(stA U u b x.toNat).2+(U y-U x)*zcb b.g b.es (stA U u b x.toNat).1 x)/\cen b.es (y-1)=cen b.es x:=by
 obtain ⟨xy,yL,no⟩:=E.gap hx hy
 have n1:∀ d,x<d->d<y->∀ e∈b.es,e.2.1≠d:=fun d h1 h2 e he z=>no d h1 h2 ((E.mem d).mpr ⟨by ac_rfl,.inr (.inl (yah.mpr ⟨e,he,z⟩))⟩)
 refine ⟨?_,zuF (by ac_rfl) fun e he z=>n1 e.2.1 (by ac_rfl) (by ac_rfl) e he rfl⟩
 rw[next A x0 xy fun d h1 h2=>ztS (n1 d h1 h2),znD (Int.le_of_lt xy) fun d h1 h2=>?_,zl2 I]
 rw[zl2 I,zl2 I]
 refine zuG h1 (fun e he z=>n1 e.2.1 (by ac_rfl) (by ac_rfl) e he rfl) (fun s hs z=>no s.2 (by ac_rfl) (by ac_rfl) ((E.mem _).mpr ⟨by ac_rfl,.inr (.inr (.inl (yay (f:=fun s:Int × Int=>s.2) hs)))⟩)) (fun s hs z=>no _ (by ac_rfl) (by ac_rfl) ((E.mem _).mpr ⟨by ac_rfl,.inr (.inr (.inr (yah.mpr ⟨s,hs,rfl⟩)))⟩))
theorem zsZ {U:Int->Int} {u:Int} {b:BkT} {L x:Int} {ds:List Int} (A:AOk U u b) (E:Edgs b.g b.es L ds) (x0:0<=x) (hx:ds[0]?=some x):stB U u b x.toNat=(0,0)/\cen b.es (x-1)=0:=by
 have f:=E.first hx
 exact ⟨zw6 A x0 fun d _ h2=>ztS fun e he z=>by have:=f e he;ac_rfl,zuI fun e he=>by have:=f e he;ac_rfl⟩
theorem zuh {es:List Er} {u:Int} {k:Nat} {s:Int × Int} {C:Int} (h:s.2=u*cen es ((k:Int)-1)+C):(doD u (ddE es k) s).2=u*cen es k+C:=by
 have p1:=zht (prs "pay" es) k
 have p2:=zht (prs "out" es) k
 have p3:=zht (prs "fee" es) k
 rw[ztn,h]
 have e:cen es k=cen es ((k:Int)-1)+((ddE es k).1+(ddE es k).2.1-(ddE es k).2.2.2):=by
  unfold cen
  show _=_+(Sby.sm (prs "out" es) k+Sby.sm (prs "fee" es) k-Sby.sm (prs "pay" es) k)
  ac_rfl
 rw[e,Int.mul_add u (cen es _)]
 ac_rfl
end L2
namespace L2
open PySem Sums
theorem zqk (l:List (Int × Int)) (d:Int):Sby.sm l.reverse d=Sby.sm l d:=by
 unfold Sby.sm
 rw[yco,ycq,List.sum_reverse]
theorem zoK (l:List (Int × Int)) (d:Int):upto l.reverse d=upto l d:=by
 unfold upto
 rw[yco,ycq,List.sum_reverse]
structure Rev (es es2:List Er):Prop where
 rt:∀ w:Str,(w = "rate" \/ w = "late")->prs w es2=prs w es
 ot:∀ w:Ek,w≠.rate->w≠.late->prs w.word es2=(prs w.word es).reverse
theorem zs1 (w:Str) (es:List Er):dys w es=(prs w es).map (·.1):=by
 unfold dys prs
 rw[ybf]
 rfl
section
variable {es es2:List Er} (R:Rev es es2)
include R
theorem Rev.dd (d:Int):ddE es2 d=ddE es d:=by
 have o:prs "out" es2=(prs "out" es).reverse:=R.ot .out (by intro z;cases z) (by intro z;cases z)
 have f:prs "fee" es2=(prs "fee" es).reverse:=R.ot .fee (by intro z;cases z) (by intro z;cases z)
 have p:prs "pay" es2=(prs "pay" es).reverse:=R.ot .pay (by intro z;cases z) (by intro z;cases z)
 have t:prs "turn" es2=(prs "turn" es).reverse:=R.ot .turn (by intro z;cases z) (by intro z;cases z)
 unfold ddE
 rw[o,f,p,zqk,zqk,zqk,zs1,zs1,t]
 have:(d∈((prs "turn" es).reverse.map (·.1)))↔d∈(prs "turn" es).map (·.1):=by rw[ycq,ycv]
 by_cases c:d∈(prs "turn" es).map (·.1)
 ·rw[if_pos c,if_pos (this.mpr c)]
 ·rw[if_neg c,if_neg fun z=>c (this.mp z)]
theorem Rev.day (g P d:Int):zcb g es2 P d=zcb g es P d:=by
 have s:prs "still" es2=(prs "still" es).reverse:=R.ot .still (by intro z;cases z) (by intro z;cases z)
 have u:prs "due" es2=(prs "due" es).reverse:=R.ot .due (by intro z;cases z) (by intro z;cases z)
 have p:prs "pay" es2=(prs "pay" es).reverse:=R.ot .pay (by intro z;cases z) (by intro z;cases z)
 have cv:∀ d,Spans.Cov (prs "still" es).reverse d↔Spans.Cov (prs "still" es) d:=fun d=>⟨fun ⟨s,hs,h⟩=>⟨s,ycv.mp hs,h⟩,fun ⟨s,hs,h⟩=>⟨s,ycv.mpr hs,h⟩⟩
 have si:Spans.isIn (prs "still" es).reverse d=Spans.isIn (prs "still" es) d:=by rw[Bool.eq_iff_iff,Spans.zaC,Spans.zaC];exact cv d
 have mp:mvp (mvd (prs "still" es)) (prs "due" es).reverse=(mvp (mvd (prs "still" es)) (prs "due" es)).reverse:=by unfold mvp;rw[ycq]
 unfold zcb rtE ltE lkE
 rw[R.rt "rate" (.inl rfl),R.rt "late" (.inr rfl),s,u,p,si,zrP cv,mp,zoK,zoK]
theorem Rev.sa {U:Int->Int} {u g:Int} (k:Nat):saE U u g es2 k=saE U u g es k:=by
 unfold saE
 rw[zny k (fun d _=>R.dd d) fun P d _=>R.day g P d,R.dd]
end
def za4 (e:Er):Bool:=isW "rate" e || isW "late" e
theorem zxf (es:List Er):Rev es ((es.filter fun e=>!za4 e).reverse++es.filter za4):=by
 refine ⟨fun w hw=>?_,fun w h1 h2=>?_⟩
 ·rw[zix]
  have a:prs w (es.filter fun e=>!za4 e).reverse=[]:=by
   unfold prs
   rw[yco,ycg,ybv.mpr fun e _=>?_]
   ·rfl
   ·unfold za4
    rcases hw with rfl | rfl
    ·cases isW "rate" e <;> simp
    ·cases isW "late" e <;> simp
  have b:prs w (es.filter za4)=prs w es:=by
   unfold prs
   rw[ycg]
   congr 1
   refine yca fun e _=>?_
   unfold za4
   rcases hw with rfl | rfl
   ·cases isW "rate" e <;> simp
   ·cases isW "late" e <;> simp
  rw[a,b]
  rfl
 ·have no:∀ e,isW w.word e=true->za4 e=false:=fun e he=>by
   have k:e.1=w:=by
    have h:V.str e.1.word=V.str w.word:=of_decide_eq_true he
    revert h
    generalize e.1=k
    intro h
    injection h with h
    cases k <;> cases w <;> first | rfl | exact absurd h (by decide +kernel)
   unfold za4
   have r:isW "rate" e=false:=decide_eq_false fun z=>by
    injection z with z
    rw[k] at z
    cases w <;> first | exact h1 rfl | exact absurd z (by decide +kernel)
   have l:isW "late" e=false:=decide_eq_false fun z=>by
    injection z with z
    rw[k] at z
    cases w <;> first | exact h2 rfl | exact absurd z (by decide +kernel)
   rw[r,l]
   rfl
  rw[zix]
  have a:prs w.word (es.filter za4)=[]:=by
   unfold prs
   rw[ycg,ybv.mpr fun e _=>?_]
   ·rfl
   ·intro z
    rw[Bool.and_eq_true] at z
    have:=no e z.1
    rw[z.2] at this
    cases this
  have b:prs w.word (es.filter fun e=>!za4 e).reverse=(prs w.word es).reverse:=by
   unfold prs
   rw[yco,ycg,ycq]
   congr 2
   refine yca fun e _=>?_
   cases c:isW w.word e with
   | false=>simp
   | true=>rw[no e c];rfl
  rw[a,b,yci]
end L2
namespace Cal
def leap (y:Int):Bool:=decide (y % 4=0) && (!decide (y % 100=0) || decide (y % 400=0))
noncomputable def lp (y:Int):Int:=if leap y=true then 1 else 0
noncomputable def mlen (y m:Int):Int:=if m=2 then 28+lp y else 31-(m-1) % 7 % 2
noncomputable def ny (y:Int):Int:=365*(y-2000)+(y-2000+3) / 4-(y-2000+99) / 100+(y-2000+399) / 400
noncomputable def cum (y m:Int):Int :=
 if m=1 then 0 else if m=2 then 31 else
 lp y+(if m=3 then 59 else if m=4 then 90 else if m=5 then 120 else if m=6 then 151 else if m=7 then 181 else if m=8 then 212
  else if m=9 then 243 else if m=10 then 273 else if m=11 then 304 else 334)
noncomputable def num (y m d:Int):Int:=ny y+cum y m+d-1
structure zbD (y m d:Int):Prop where
 m1:1<=m
 m2:m<=12
 d1:1<=d
 d2:d<=mlen y m
theorem zxb (y:Int):(lp y=1/\y % 4=0/\(y % 100≠0\/y % 400=0))\/(lp y=0/\(y % 4≠0\/(y % 100=0/\y % 400≠0))):=by
 unfold lp leap
 by_cases h1:y % 4=0 <;> by_cases h2:y % 100=0 <;> by_cases h3:y % 400=0 <;> simp[h1,h2,h3]
theorem zlW (y:Int):0<=lp y/\lp y<=1:=by
 rcases zxb y with h | h <;> ac_rfl
theorem st4 (y:Int):(y+1-2000+3) / 4=(y-2000+3) / 4+(if y % 4=0 then 1 else 0):=by split <;> ac_rfl
theorem zxF (y:Int):(y+1-2000+99) / 100=(y-2000+99) / 100+(if y % 100=0 then 1 else 0):=by split <;> ac_rfl
theorem zxI (y:Int):(y+1-2000+399) / 400=(y-2000+399) / 400+(if y % 400=0 then 1 else 0):=by split <;> ac_rfl
theorem zw9 {y b d f p q r:Int}:365*(y+1-2000)+(b+p)-(d+q)+(f+r)=365*(y-2000)+b-d+f+365+(p-q+r):=by ac_rfl
theorem zxu (y:Int):lp y=(if y % 4=0 then 1 else 0)-(if y % 100=0 then 1 else 0)+(if y % 400=0 then 1 else 0):=by
 have h1:y % 100=0->y % 4=0:=by ac_rfl
 have h2:y % 400=0->y % 100=0:=by ac_rfl
 unfold lp leap
 by_cases a:y % 4=0
 ·by_cases b:y % 100=0
  ·by_cases c:y % 400=0
   ·rw[if_pos a,if_pos b,if_pos c,decide_eq_true a,decide_eq_true b,decide_eq_true c];rfl
   ·rw[if_pos a,if_pos b,if_neg c,decide_eq_true a,decide_eq_true b,decide_eq_false c];rfl
  ·rw[if_pos a,if_neg b,if_neg (fun c=>b (h2 c)),decide_eq_true a,decide_eq_false b];rfl
 ·rw[if_neg a,if_neg (fun b=>a (h1 b)),if_neg (fun c=>a (h1 (h2 c))),decide_eq_false a];rfl
theorem zbU (y:Int):ny (y+1)=ny y+365+lp y:=by
 unfold ny
 rw[st4,zxF,zxI,zxu]
 exact zw9
noncomputable def zmW (l m:Int):Int :=
 if m=1 then 0 else if m=2 then 31 else
 l+(if m=3 then 59 else if m=4 then 90 else if m=5 then 120 else if m=6 then 151 else if m=7 then 181 else if m=8 then 212
  else if m=9 then 243 else if m=10 then 273 else if m=11 then 304 else 334)
noncomputable def zkS (l m:Int):Int:=if m=2 then 28+l else 31-(m-1) % 7 % 2
theorem zr5:∀ l:Bool,∀ k:Fin 12,(28<=zkS l.toInt (k.val+1)/\zkS l.toInt (k.val+1)<=31) /\
  (0<=zmW l.toInt (k.val+1)/\zmW l.toInt (k.val+1)+zkS l.toInt (k.val+1)<=365+l.toInt) /\
  (k.val<11->zmW l.toInt (k.val+1+1)=zmW l.toInt (k.val+1)+zkS l.toInt (k.val+1))/\zmW l.toInt 12+zkS l.toInt 12=365+l.toInt:=by decide
theorem lpB (y:Int):lp y=(leap y).toInt:=by unfold lp;cases leap y <;> rfl
theorem zux {m:Int} (h1:1<=m) (h2:m<=12):∃ k:Fin 12,m=k.val+1:=⟨⟨(m-1).toNat,by ac_rfl⟩,by show m=((m-1).toNat:Int)+1;ac_rfl⟩
theorem zsD (y m:Int):cum y m=zmW (leap y).toInt m:=by rw[<-lpB];rfl
theorem zor (y m:Int):mlen y m=zkS (leap y).toInt m:=by rw[<-lpB];rfl
theorem zgV {y m:Int} (h1:1<=m) (h2:m<=11):cum y (m+1)=cum y m+mlen y m:=by
 obtain ⟨k,rfl⟩:=zux h1 (Int.le_trans h2 (by decide))
 rw[zsD,zsD,zor]
 exact (zr5 (leap y) k).2.2.1 (by ac_rfl)
theorem zij {y m:Int} (h1:1<=m) (h2:m<=12):28<=mlen y m/\mlen y m<=31:=by
 obtain ⟨k,rfl⟩:=zux h1 h2
 rw[zor]
 exact (zr5 (leap y) k).1
theorem zio {y m:Int} (h1:1<=m) (h2:m<=12):0<=cum y m/\cum y m+mlen y m<=365+lp y:=by
 obtain ⟨k,rfl⟩:=zux h1 h2
 rw[zsD,zor,lpB]
 exact (zr5 (leap y) k).2.1
theorem zmf (y:Int):cum y 12+mlen y 12=365+lp y:=by
 rw[zsD,zor,lpB]
 exact (zr5 (leap y) 0).2.2.2
noncomputable def ms (M:Int):Int:=ny (M / 12)+cum (M / 12) (M % 12+1)
noncomputable def ml (M:Int):Int:=mlen (M / 12) (M % 12+1)
theorem zos (M:Int):28<=ml M/\ml M<=31:=zij (by ac_rfl) (by ac_rfl)
theorem zrh (M:Int):ms (M+1)=ms M+ml M:=by
 unfold ms ml
 by_cases h:M % 12=11
 ·have e1:(M+1) / 12=M / 12+1:=by ac_rfl
  have e2:(M+1) % 12=0:=by ac_rfl
  rw[e1,e2,h,zbU]
  have:=zmf (M / 12)
  simp only[show (11:Int)+1=12 by rfl]
  have e3:cum (M / 12+1) (0+1)=0:=by simp[cum]
  ac_rfl
 ·have e1:(M+1) / 12=M / 12:=by ac_rfl
  have e2:(M+1) % 12=M % 12+1:=by ac_rfl
  rw[e1,e2,zgV (by ac_rfl) (by ac_rfl)]
  ac_rfl
theorem ztp (M:Int):∀ k:Nat,ms M+k<=ms (M+k)
 | 0=>by simp
 | k+1=>by
  have h:=ztp M k
  have h2:=zrh (M+k)
  have h3:=zos (M+k)
  have e:M+((k+1:Nat):Int)=M+k+1:=by ac_rfl
  rw[e,h2];ac_rfl
theorem zwg {M N:Int} (h:M<=N):ms M+(N-M)<=ms N:=by
 have:=ztp M (N-M).toNat
 have e:M+((N-M).toNat:Int)=N:=by ac_rfl
 rw[e] at this;ac_rfl
theorem zkO {M N:Int} (h:M<N):ms M+ml M<=ms N:=by
 have:=zwg (show M+1<=N by ac_rfl)
 rw[zrh] at this;ac_rfl
theorem zg1 {y m d:Int} (h1:1<=m) (h2:m<=12):num y m d=ms (12*y+m-1)+d-1:=by
 unfold num ms
 rw[show (12*y+m-1) / 12=y by ac_rfl,show (12*y+m-1) % 12+1=m by ac_rfl]
theorem zm4 {y m:Int} (h1:1<=m) (h2:m<=12):ml (12*y+m-1)=mlen y m:=by
 unfold ml
 rw[show (12*y+m-1) / 12=y by ac_rfl,show (12*y+m-1) % 12+1=m by ac_rfl]
theorem zuW {y m d y' m' d':Int} (h:zbD y m d) (h':zbD y' m' d') (e:num y m d=num y' m' d'):y=y'/\m=m'/\d=d':=by
 obtain ⟨a,b,c,f⟩:=h
 obtain ⟨a',b',c',f'⟩:=h'
 rw[zg1 a b,zg1 a' b'] at e
 rw[<-zm4 a b] at f
 rw[<-zm4 a' b'] at f'
 have h1:¬ (12*y+m-1<12*y'+m'-1):=fun q=>by have:=zkO q;ac_rfl
 have h2:¬ (12*y'+m'-1<12*y+m-1):=fun q=>by have:=zkO q;ac_rfl
 have h3:12*y+m-1=12*y'+m'-1:=by ac_rfl
 rw[h3] at e
 ac_rfl
theorem zts (y:Int):∀ k:Nat,ny y+365*k<=ny (y+k)
 | 0=>by simp
 | k+1=>by
  have h:=zts y k
  have h2:=zbU (y+k)
  have h3:=zlW (y+k)
  have e:y+((k+1:Nat):Int)=y+k+1:=by ac_rfl
  rw[e,h2];ac_rfl
theorem ziv {y z:Int} (h:y<=z):ny y+365*(z-y)<=ny z:=by
 have:=zts y (z-y).toNat
 have e:y+((z-y).toNat:Int)=z:=by ac_rfl
 rw[e] at this;ac_rfl
theorem zwJ:ny 2000=0:=by decide
theorem zmn {y m d:Int} (h:zbD y m d) (h0:0<=num y m d):2000<=y:=by
 have hc:=@zio y m h.m1 h.m2
 have:=h.d2
 have h1:=zbU y
 have h2:=zwJ
 by_cases q:2000<=y
 ·exact q
 ·have:=ziv (show y+1<=2000 by ac_rfl)
  unfold num at h0
  ac_rfl
theorem zsI {d:Int}:ny (2000+d*400 / 146097-1)<=d:=by
 unfold ny;ac_rfl
theorem between {y1 m1 d1 y2 m2 d2 k:Int} (h1:zbD y1 m1 d1) (h2:zbD y2 m2 d2) (le:num y1 m1 d1<=num y2 m2 d2)
  (hk:k=if (if mlen y2 m2<d1 then mlen y2 m2 else d1) > d2 then 12*(y2-y1)+m2-m1-1 else 12*(y2-y1)+m2-m1) :
  0<=k/\∀ (P P' L L':Int),P=12*y1+m1-1+k->P'=P+1->(L=if ml P<d1 then ml P else d1)->(L'=if ml P'<d1 then ml P' else d1) ->
   ms P+L-1<=num y2 m2 d2/\num y2 m2 d2<ms P'+L'-1:=by
 obtain ⟨a1,b1,c1,e1⟩:=h1
 obtain ⟨a2,b2,c2,e2⟩:=h2
 rw[zg1 a1 b1,zg1 a2 b2] at le
 rw[zg1 a2 b2]
 rw[<-zm4 a1 b1] at e1
 rw[<-zm4 a2 b2] at e2 hk
 generalize hM1:12*y1+m1-1=M1 at *
 generalize hM2:12*y2+m2-1=M2 at *
 have hk':k=if (if ml M2<d1 then ml M2 else d1) > d2 then M2-M1-1 else M2-M1:=by
  rw[hk];split <;> ac_rfl
 have hle:M1<=M2:=by
  by_cases q:M1<=M2
  ·exact q
  ·have:=zkO (show M2<M1 by ac_rfl);ac_rfl
 have g:M1<M2\/M1=M2:=by ac_rfl
 have b2':=zos M2
 constructor
 ·rcases g with g | g
  ·rw[hk'];split <;> ac_rfl
  ·subst g
   rw[hk',if_neg]
   ·ac_rfl
   ·split <;> ac_rfl
 ·intro P P' L L' hP hP' hL hL'
  have bP:=zos P
  have bP':=zos P'
  have hL1:1<=L/\L<=ml P:=by rw[hL];split <;> ac_rfl
  have hL1':1<=L'/\L'<=ml P':=by rw[hL'];split <;> ac_rfl
  by_cases q:(if ml M2<d1 then ml M2 else d1) > d2
  ·rw[if_pos q] at hk'
   have eP:P=M2-1:=by ac_rfl
   have eP':P'=M2:=by ac_rfl
   have:=zkO (show P<M2 by ac_rfl)
   rw[eP'] at hL' ⊢
   constructor
   ·ac_rfl
   ·rw[hL'];ac_rfl
  ·rw[if_neg q] at hk'
   have eP:P=M2:=by ac_rfl
   have eP':P'=M2+1:=by ac_rfl
   have:=zkO (show M2<P' by ac_rfl)
   rw[eP] at hL ⊢
   constructor
   ·rw[hL];ac_rfl
   ·ac_rfl
theorem zsY {y m r:Int} (D:zbD y m r):∃ y' m' r',zbD y' m' r'/\num y' m' r'=num y m r+1:=by
 obtain ⟨a,b,c,d⟩:=D
 have l1:=@zij (y+1) 1 (by decide) (by decide)
 by_cases h:r<mlen y m
 ·exact ⟨y,m,r+1,⟨a,b,by ac_rfl,by ac_rfl⟩,by unfold num;ac_rfl⟩
 ·by_cases h2:m<=11
  ·have cs:=@zgV y m a h2
   have l2:=@zij y (m+1) (by ac_rfl) (by ac_rfl)
   exact ⟨y,m+1,1,⟨by ac_rfl,by ac_rfl,by ac_rfl,by ac_rfl⟩,by unfold num;ac_rfl⟩
  ·have e:m=12:=by ac_rfl
   subst e
   have c12:=zmf y
   have n1:=zbU y
   have c1:cum (y+1) 1=0:=by simp[cum]
   exact ⟨y+1,1,1,⟨by ac_rfl,by ac_rfl,by ac_rfl,by ac_rfl⟩,by unfold num;ac_rfl⟩
theorem zp4:∀ n:Nat,∃ y m r,zbD y m r/\num y m r=n
 | 0=>⟨2000,1,1,⟨by decide,by decide,by decide,by decide⟩,by decide⟩
 | n+1=>by
  obtain ⟨y,m,r,D,e⟩:=zp4 n
  obtain ⟨y',m',r',D',e'⟩:=zsY D
  exact ⟨y',m',r',D',by ac_rfl⟩
theorem zkF {d:Int} (h:0<=d):∃ y m r,zbD y m r/\num y m r=d:=by
 obtain ⟨y,m,r,D,e⟩:=zp4 d.toNat
 exact ⟨y,m,r,D,by ac_rfl⟩
end Cal
namespace Cnt
open Cal
def zlk (d u:Int):Prop:=∃ y m r,zbD y m r/\num y m r=d/\u=30*(12*(y-2000)+m-1)+(if 30<r then 30 else r)-1
noncomputable def each (y:Int):Int:=if leap y=true then 365 else 366
def zlE (d u:Int):Prop:=∃ y,ny y<=d/\d<ny (y+1)/\u=365*366*(y-2000)+each y*(d-ny y)
theorem zlk.one {d u v:Int} (a:zlk d u) (b:zlk d v):u=v:=by
 obtain ⟨y,m,r,D,e,rfl⟩:=a
 obtain ⟨y',m',r',D',e',rfl⟩:=b
 obtain ⟨rfl,rfl,rfl⟩:=zuW D D' (e.trans e'.symm)
 rfl
theorem zu3 {d y z:Int} (h1:ny y<=d) (h2:d<ny (y+1)) (h3:ny z<=d) (h4:d<ny (z+1)):y=z:=by
 rcases yeb y z with h | h | h
 ·have:=ziv (show y+1<=z by ac_rfl)
  ac_rfl
 ·exact h
 ·have:=ziv (show z+1<=y by ac_rfl)
  ac_rfl
theorem zlE.one {d u v:Int} (a:zlE d u) (b:zlE d v):u=v:=by
 obtain ⟨y,h1,h2,rfl⟩:=a
 obtain ⟨z,h3,h4,rfl⟩:=b
 obtain rfl:=zu3 h1 h2 h3 h4
 rfl
noncomputable def UT (d:Int):Int:=Classical.epsilon fun u=>zlk d u
noncomputable def UE (d:Int):Int:=Classical.epsilon fun u=>zlE d u
theorem zl8 {d u:Int} (h:zlk d u):UT d=u:=zlk.one (Classical.epsilon_spec (p:=fun u=>zlk d u) ⟨u,h⟩) h
theorem zl9 {d u:Int} (h:zlE d u):UE d=u:=zlE.one (Classical.epsilon_spec (p:=fun u=>zlE d u) ⟨u,h⟩) h
theorem zmG {d:Int} (h:0<=d):∃ y,2000<=y/\ny y<=d/\d<ny (y+1):=by
 obtain ⟨y,m,r,D,e⟩:=zkF h
 have c:=zio (y:=y) D.m1 D.m2
 have s:=zbU y
 have r1:=D.d1
 have r2:=D.d2
 refine ⟨y,zmn D (by ac_rfl),?_,?_⟩
 ·unfold num at e;ac_rfl
 ·unfold num at e;ac_rfl
theorem zwj {a b:Int} (h0:0<=a) (ab:a<=b):UT a<=UT b:=by
 obtain ⟨y,m,r,D,e⟩:=zkF h0
 obtain ⟨y',m',r',D',e'⟩:=zkF (show 0<=b by ac_rfl)
 rw[zl8 ⟨y,m,r,D,e,rfl⟩,zl8 ⟨y',m',r',D',e',rfl⟩]
 rw[zg1 D.m1 D.m2] at e
 rw[zg1 D'.m1 D'.m2] at e'
 have l:=zm4 (y:=y) D.m1 D.m2
 have l':=zm4 (y:=y') D'.m1 D'.m2
 have d1:=D.d1
 have d2:=D.d2
 have d1':=D'.d1
 have d2':=D'.d2
 rcases yeb (12*y+m-1) (12*y'+m'-1) with h | h | h
 ·split <;> split <;> ac_rfl
 ·rw[h] at e
  split <;> split <;> ac_rfl
 ·have:=zkO h
  ac_rfl
theorem ziw (y:Int):(each y=365/\lp y=1)\/(each y=366/\lp y=0):=by
 unfold each lp
 split
 ·exact .inl ⟨rfl,rfl⟩
 ·exact .inr ⟨rfl,rfl⟩
theorem zvZ {a b:Int} (h0:0<=a) (ab:a<=b):UE a<=UE b:=by
 obtain ⟨y,y0,h1,h2⟩:=zmG h0
 obtain ⟨z,z0,h3,h4⟩:=zmG (show 0<=b by ac_rfl)
 rw[zl9 ⟨y,h1,h2,rfl⟩,zl9 ⟨z,h3,h4,rfl⟩]
 have s:=zbU y
 rcases yeb y z with h | h | h
 ·rcases ziw y with ⟨e,l⟩ | ⟨e,l⟩ <;> rcases ziw z with ⟨e',l'⟩ | ⟨e',l'⟩ <;> rw[e,e'] <;> ac_rfl
 ·subst h
  rcases ziw y with ⟨e,l⟩ | ⟨e,l⟩ <;> rw[e] <;> ac_rfl
 ·have:=ziv (show z+1<=y by ac_rfl)
  ac_rfl
end Cnt
namespace Cnt
open Cal
theorem zrM {d y:Int} (h1:d<=1000000) (h2:ny y<=d):y<=4740:=by
 by_cases c:y<=4740
 ·exact c
 ·have:=ziv (show (2000:Int)<=y by ac_rfl)
  rw[zwJ] at this
  ac_rfl
theorem zvc {d:Int} (h0:0<=d) (h1:d<=1000000):-1<=UT d/\UT d<=1000000000:=by
 obtain ⟨y,m,r,D,e⟩:=zkF h0
 have y0:=zmn D (by ac_rfl)
 have m1:=D.m1
 have m2:=D.m2
 have d1:=D.d1
 have c:=zio (y:=y) m1 m2
 have y1:y<=4740:=zrM h1 (by unfold num at e;ac_rfl)
 rw[zl8 ⟨y,m,r,D,e,rfl⟩]
 split <;> ac_rfl
theorem zvn {d:Int} (h0:0<=d) (h1:d<=1000000):-1<=UE d/\UE d<=1000000000:=by
 obtain ⟨y,y0,q1,q2⟩:=zmG h0
 have y1:=zrM h1 q1
 have s:=zbU y
 have l:=zlW y
 rw[zl9 ⟨y,q1,q2,rfl⟩]
 rcases ziw y with ⟨e,_⟩ | ⟨e,_⟩ <;> rw[e] <;> ac_rfl
end Cnt
namespace Cnt
open Cal
end Cnt
namespace Cnt
open Cal
end Cnt
namespace Cnt
open Cal
end Cnt
theorem L2.us1 {α:Type} {P:List α->Prop} (h:∀ a,P [a]):∀ us:List α,us.length=1->P us
 | [a],_=>h a
theorem L2.us2 {α:Type} {P:List α->Prop} (h:∀ a b,P [a,b]):∀ us:List α,us.length=2->P us
 | [a,b],_=>h a b
theorem L2.us3 {α:Type} {P:List α->Prop} (h:∀ a b c,P [a,b,c]):∀ us:List α,us.length=3->P us
 | [a,b,c],_=>h a b c
theorem L2.us4 {α:Type} {P:List α->Prop} (h:∀ a b c d,P [a,b,c,d]):∀ us:List α,us.length=4->P us
 | [a,b,c,d],_=>h a b c d
theorem L2.us5 {α:Type} {P:List α->Prop} (h:∀ a b c d e,P [a,b,c,d,e]):∀ us:List α,us.length=5->P us
 | [a,b,c,d,e],_=>h a b c d e
theorem L2.qb {Q:L2.VK} {H:L2.Hp} {a b:Bool} (h:Q (.bl a) H) (e:a=b):Q (.bl b) H:=e ▸ h
theorem L2.qi {Q:L2.VK} {H:L2.Hp} {a b:Int} (h:Q (.int a) H) (e:a=b):Q (.int b) H:=e ▸ h
local macro_rules | `(tactic| walk_at "cap")=>`(tactic| repeat (first | exact trivial | refine ⟨⟨by first | exact Or.inl rfl | exact Or.inr rfl,by first | exact Or.inl rfl | exact Or.inr rfl,rfl⟩,?_⟩))
local macro_rules | `(tactic| walk_at "sub")=>`(tactic| repeat (first | exact trivial | refine ⟨rfl,?_⟩))
local macro_rules | `(tactic| walk_at "has")=>`(tactic| repeat (first | exact trivial | refine ⟨fun _=>⟨_,rfl⟩,?_⟩ | refine ⟨(fun z=>by (rcases z with z | z <;> first | cases (show PySem.NameKind.local=PySem.NameKind.cell from z) | cases (show PySem.NameKind.local=PySem.NameKind.free from z) | cases (show PySem.NameKind.globalImplicit=PySem.NameKind.cell from z) | cases (show PySem.NameKind.globalImplicit=PySem.NameKind.free from z))),?_⟩))
local macro_rules | `(tactic| walk_at "rd1")=>`(tactic| first
 | with_reducible refine L2.zx1 ?_
 | with_reducible refine L2.zwF ?_
 | refine ⟨_,rfl,?_⟩
 | refine ⟨_,_,rfl,rfl,?_⟩
 | refine ⟨_,_,rfl,?_⟩
 | refine ⟨_,_,_,rfl,?_⟩
 | refine ⟨rfl,?_⟩
 | refine ⟨(⟨by decide,by decide⟩:L2.CDiv _ _),?_⟩
 | refine ⟨(show (0:Int)<_ by first | decide | walk_at "o"),?_⟩
 | refine ⟨(⟨by decide,by decide,by decide⟩:L2.CPow _ _),?_⟩
 | refine ⟨(Or.inl ⟨by first | decide | walk_at "o",by first | decide | walk_at "o"⟩:L2.CMul _ _),?_⟩
 | refine ⟨(Or.inr ⟨by first | decide | walk_at "o",by first | decide | walk_at "o"⟩:L2.CMul _ _),?_⟩
 | refine ⟨_,_,rfl,.inl (by assumption),?_⟩
 | refine ⟨_,_,_,_,rfl,rfl,L2.SqT.of (by assumption),rfl,?_⟩
 | (refine ⟨_,_,_,_,rfl,(by assumption),(by first | walk_at "o" | decide),(by first | walk_at "o" | decide),(by first | walk_at "o" | decide),?_⟩;intro r' r0' r1')
 | (refine ⟨_,_,_,rfl,(by assumption),(by walk_at "o"),(by walk_at "o"),?_⟩;intro r' r0' r1')
 | refine And.intro (by walk_at "o") ?_
 | refine And.intro (Nat.le_of_ble_eq_true rfl) ?_
 | with_reducible refine L2.iteNF ?_
 | with_reducible refine L2.zxB ?_
 | with_reducible refine L2.ifI (fun _=>?_) (fun _=>?_)
 | with_reducible refine L2.zxZ (fun _=>?_) (fun _=>?_)
 | with_reducible refine L2.ifD (fun _=>?_) (fun _=>?_)
 | with_reducible refine L2.zxU (fun _=>?_) (fun _=>?_))
local macro_rules | `(tactic| walk_at "rd")=>`(tactic| repeat' walk_at "rd1")
seal L2.PSs L2.PS L2.PE L2.PT L2.PA L2.PI L2.PG L2.PGs L2.PW L2.PC L2.PO
local macro_rules | `(tactic| walk_at "rd1")=>`(tactic| first
 | with_reducible refine L2.zyi ?_
 | with_reducible refine L2.zyg (by decide) ?_
 | with_reducible refine L2.ifSNT ?_
 | with_reducible refine L2.ifSNF (by decide) ?_
 | ((with_reducible refine And.intro (a:=L2.zvv _ _) ?_ ?_);(exact ⟨by first | decide | walk_at "o",by first | decide | walk_at "o"⟩))
 | fail)
local macro_rules | `(tactic| walk_at "rd1")=>`(tactic| ((with_reducible refine L2.sqG ?_);(first | (with_reducible refine L2.zxM ?_) | (with_reducible refine L2.zx6 ?_) | (with_reducible refine L2.zx5 ?_) | (with_reducible refine L2.zyq ?_) | (with_reducible refine L2.zx3 ?_) | (with_reducible refine L2.zx0 ?_) | (with_reducible refine L2.zyf ?_) | (with_reducible refine L2.zxW ?_) | (with_reducible refine L2.zx9 ?_));intros))
local macro_rules | `(tactic| walk_at "s1")=>`(tactic| first | exact L2.us1 fun _=>rfl | exact L2.us2 fun _ _=>rfl | exact L2.us3 fun _ _ _=>rfl | exact L2.us4 fun _ _ _ _=>rfl | exact L2.us5 fun _ _ _ _ _=>rfl | k_is | rfl)
local macro_rules | `(tactic| walk_at "lc")=>`(tactic| first | exact Or.inl rfl | exact Or.inr rfl)
local macro_rules | `(tactic| walk_at "sp")=>`(tactic| exact ⟨rfl,rfl,rfl,by decide +kernel,rfl,by decide +kernel,by decide +kernel⟩)
local macro_rules | `(tactic| nofun)=>`(tactic| walk_at "rd")
abbrev qaa:List PySem.Str:=["self"]
abbrev qab:List PySem.Str:=["self","day"]
abbrev qac:List PySem.Str:=["self","amount"]
abbrev qad:List PySem.Str:=["_law_script"]
abbrev qae:List PySem.Str:=["entries","word"]
abbrev qaf:List PySem.Str:=["_law_rows","_law_day"]
abbrev qag:List PySem.Str:=["book"]
abbrev qah:List PySem.Str:=["year"]
abbrev qai:List PySem.Str:=["self","day","amount"]
abbrev qaj:List PySem.Str:=["book","day"]
abbrev qak:List PySem.Str:=["pairs"]
abbrev qal:List PySem.Str:=["spans","day"]
abbrev qam:List PySem.Str:=["self","a","b"]
abbrev qan:List PySem.Str:=["day"]
abbrev qao:List PySem.Str:=["book","days"]
abbrev qap:List PySem.Str:=["_law_script","_law_rows","_law_last"]
abbrev qaq:List PySem.Str:=["_law_script","_law_k"]
abbrev qar:List PySem.Str:=["self","day","rate"]
abbrev qas:List PySem.Str:=["_law_year"]
abbrev qat:List PySem.Str:=["rows","day"]
abbrev qau:List PySem.Str:=["self","unit"]
abbrev qav:List PySem.Str:=["_law_cell","_law_many"]
abbrev qaw:List PySem.Str:=["_law_year","_law_month"]
abbrev qax:List PySem.Str:=["self","units"]
abbrev qay:List PySem.Str:=["year","month"]
abbrev qaz:List PySem.Str:=["self","day","until"]
abbrev qba:List PySem.Str:=["thing","least","most"]
abbrev qbb:List PySem.Str:=["count","grace"]
abbrev qbc:List PySem.Str:=["entries","spans"]
abbrev qbd:List PySem.Str:=["debt","deeds"]
abbrev qbe:List PySem.Str:=["self","count","grace","entries"]
abbrev qbf:List PySem.Str:=["_law_script","_law_rows"]
abbrev qbg:List PySem.Str:=["_law_word","_law_day","_law_xs"]
abbrev qbh:List PySem.Str:=["_law_rows","_law_word"]
abbrev qbi:List PySem.Str:=["_law_unit_here","_law_principal","_law_units","_law_deeds_here"]
abbrev qbj:List PySem.Str:=["_law_rows","_law_word","_law_day"]
abbrev qbk:List PySem.Str:=["table","day"]
abbrev qbl:List PySem.Str:=["entries"]
abbrev qbm:List PySem.Str:=["_law_cell","_law_base","_law_wide"]
abbrev qbn:List PySem.Str:=["_law_rows"]
abbrev qbo:List PySem.Str:=["_law_day"]
abbrev qbp:List PySem.Str:=["_law_script","_law_rows","_law_day"]
abbrev qbq:List PySem.Str:=["_law_cell"]
abbrev qbr:List PySem.Str:=["_law_row_here"]
abbrev qbs:List PySem.Str:=["_law_kind","_law_day"]
abbrev qbt:List PySem.Str:=["count","rows","principal","a","b"]
abbrev qbu:List PySem.Str:=["book","rows"]
namespace My
open PySem L2
local macro_rules | `(tactic| exists $a:term,$b:term,$z:term)=>do
 let [v,H,Q,E,h,f,c,A,o,s,r]:=[`vs,`H,`Q,`E,`h,`f,`cdv,`A,`outer,`s,`hr].map Lean.mkIdent | unreachable!
 `(tactic| refine $a $b (fun $v $H $Q $E $h=>?_) (fun $f $c $A $o $s $H $v $Q $E $r $h=>?_))
noncomputable def top (i:Nat):Stmt:=PySem.Challenge.pw_loanroll_k47_whole_far_accounts.main.body.getD i (.Pass ⟨0,0,0,0⟩)
structure Txt (K:W.Frag) (mg:Str->Option Value):Prop where
 zoN:mg "bool" = none
 zfm:mg "dict" = none
 zhq:mg "int" = none
 zcA:mg "isinstance" = none
 zdd:mg "len" = none
 zcv:mg "list" = none
 zcp:mg "max" = none
 zcM:mg "min" = none
 zdx:mg "range" = none
 ziZ:mg "set" = none
 zbG:mg "sorted" = none
 zkC:mg "sum" = none
 cls:∀ kd:Kd,Cls K (cA K kd.cls)
 mk0:∀ kd:Kd,Mk0 K (cA K kd.cls)
 ikK:∀ kd:Kd,zt4 K (cA K kd.cls)
 kitK0:∀ k:Kd,PySem.W.kitOne K (.ref (cA K k.cls)) (.ref (cA K (Kd.cls .plain)))=some (zw4 k .plain)
 kitS:∀ k:Kd,PySem.W.kitOne K (.ref (cA K k.cls)) (.type "str")=some false
 zoW:mg "Bank" = some (.ref (cA K "Bank"))
 zpY:mg "Book" = some (.ref (cA K "Book"))
 zkK:mg "Count" = some (.ref (cA K "Count"))
 zmh:mg "Debt" = some (.ref (cA K "Debt"))
 zsd:mg "Due" = some (.ref (cA K "Due"))
 zii:mg "Entry" = some (.ref (cA K "Entry"))
 zmH:mg "Exact" = some (.ref (cA K "Exact"))
 zsm:mg "Fee" = some (.ref (cA K "Fee"))
 zp8:mg "Late" = some (.ref (cA K "Late"))
 zsj:mg "Out" = some (.ref (cA K "Out"))
 zsg:mg "Pay" = some (.ref (cA K "Pay"))
 zpw:mg "Rate" = some (.ref (cA K "Rate"))
 zng:mg "Still" = some (.ref (cA K "Still"))
 zln:mg "Thirty" = some (.ref (cA K "Thirty"))
 zoT:mg "Turn" = some (.ref (cA K "Turn"))
 zF:Cls K (cA K "Book")
 zmY:MkI K (cA K "Book")
 zI:Cls K (cA K "Debt")
 zkJ:MkI K (cA K "Debt")
 clE:∀ k:Ek,Cls K (cA K k.cls)
 zdV:∀ k:Ek,zV K (cA K k.cls) "amount"
 zbo:∀ k:Ek,zV K (cA K k.cls) "day"
 zlp:∀ k:Ek,zV K (cA K k.cls) "rate"
 zj9:∀ k:Ek,zV K (cA K k.cls) "until"
 zpe:MkI K (cA K "Due")
 zqf:MkI K (cA K "Fee")
 zmQ:MkI K (cA K "Late")
 zpq:MkI K (cA K "Out")
 zoS:MkI K (cA K "Pay")
 zm3:MkI K (cA K "Rate")
 zll:MkI K (cA K "Still")
 zmT:MkI K (cA K "Turn")
 zca:zV K (cA K "Book") "due_sums"
 zbt:zV K (cA K "Book") "fee_sums"
 zbP:zV K (cA K "Book") "late_rows"
 zbx:zV K (cA K "Book") "out_sums"
 zbM:zV K (cA K "Book") "own_count"
 zco:zV K (cA K "Book") "own_entries"
 zbJ:zV K (cA K "Book") "own_grace"
 zbw:zV K (cA K "Book") "pay_sums"
 zbO:zV K (cA K "Book") "rate_rows"
 zci:zV K (cA K "Book") "spans"
 zbg:zV K (cA K "Book") "turn_days"
 zaN:zV K (cA K "Debt") "cent_units"
 zU:zV K (cA K "Debt") "owed_units"
 zK:zV K (cA K "Debt") "principal_cents"
 zbS:∃ t,mg "FIRST_YEAR" = some (.int 2000 t)
 zky:∃ a,mg "LENGTHS" = some (.ref a)/\∀ H,SqT K H a [.int 31,.int 28,.int 31,.int 30,.int 31,.int 30,.int 31,.int 31,.int 30,.int 31,.int 30,.int 31]
 zeo:∃ t,mg "MOST_ENTRIES" = some (.int 500 t)
 zgZ:∃ t,mg "MOST_GRACE" = some (.int 366 t)
 zgX:∃ t,mg "RATE_PARTS" = some (.int 10000 t)
 zgS:∃ t,mg "ROUND_DAYS" = some (.int 146097 t)
 zfI:∃ t,mg "ROUND_YEARS" = some (.int 400 t)
noncomputable abbrev zf0:Stmt:=top 2
noncomputable abbrev zkI:Stmt:=top 3
noncomputable abbrev zcS:Stmt:=top 6
noncomputable abbrev ze4:Stmt:=inClass (top 9) 11
noncomputable abbrev ze1:Stmt:=inClass (top 9) 0
noncomputable abbrev zeY:Stmt:=inClass (top 9) 3
noncomputable abbrev zcc:Stmt:=inClass (top 9) 1
noncomputable abbrev zdN:Stmt:=inClass (top 9) 2
noncomputable abbrev zjq:Stmt:=top 11
noncomputable abbrev zf3:Stmt:=top 33
noncomputable abbrev zhd:Stmt:=top 34
noncomputable abbrev zfZ:Stmt:=top 36
noncomputable abbrev zed:Stmt:=inClass (top 41) 1
noncomputable abbrev zeW:Stmt:=inClass (top 42) 1
noncomputable abbrev zc6:Stmt:=inClass (top 43) 1
noncomputable abbrev zea:Stmt:=inClass (top 44) 1
noncomputable abbrev zbu:Stmt:=inClass (top 46) 0
noncomputable abbrev zd9:Stmt:=inClass (top 46) 1
noncomputable abbrev zf6:Stmt:=inClass (top 49) 0
noncomputable abbrev zfV:Stmt:=inClass (top 50) 0
noncomputable abbrev zfX:Stmt:=inClass (top 51) 0
noncomputable abbrev zfW:Stmt:=inClass (top 52) 0
noncomputable abbrev ze8:Stmt:=inClass (top 53) 0
noncomputable abbrev zfd:Stmt:=inClass (top 54) 0
noncomputable abbrev zeX:Stmt:=inClass (top 55) 0
noncomputable abbrev zdR:Stmt:=inClass (top 56) 1
noncomputable abbrev zjb:Stmt:=top 58
noncomputable abbrev zdB:Stmt:=inClass (top 68) 1
noncomputable abbrev zb4:Stmt:=inClass (top 68) 12
noncomputable abbrev zeZ:Stmt:=inClass (top 68) 11
noncomputable abbrev zfe:Stmt:=inClass (top 68) 5
noncomputable abbrev zdQ:Stmt:=inClass (top 68) 2
noncomputable abbrev zd0:Stmt:=inClass (top 68) 9
noncomputable abbrev zeL:Stmt:=inClass (top 68) 4
noncomputable abbrev zeO:Stmt:=inClass (top 68) 6
noncomputable abbrev zd1:Stmt:=inClass (top 68) 8
noncomputable abbrev zdb:Stmt:=inClass (top 68) 10
noncomputable abbrev zdL:Stmt:=inClass (top 68) 7
noncomputable abbrev zcU:Stmt:=top 70
noncomputable abbrev zef:Stmt:=top 71
noncomputable abbrev zd2:Stmt:=top 72
noncomputable abbrev zeV:Stmt:=top 78
noncomputable abbrev zeN:Stmt:=top 81
noncomputable abbrev zdH:Stmt:=top 83
noncomputable abbrev zc3:Stmt:=top 86
noncomputable abbrev zhv:Stmt:=top 88
noncomputable abbrev zdc:Stmt:=top 92
noncomputable abbrev zfY:Stmt:=top 4
noncomputable abbrev zeT:Stmt:=top 7
noncomputable abbrev zce:Stmt:=inClass (top 9) 13
noncomputable abbrev ze7:Stmt:=inClass (top 9) 9
noncomputable abbrev zkB:Stmt:=top 12
noncomputable abbrev zcT:Stmt:=top 15
noncomputable abbrev zdI:Stmt:=top 18
noncomputable abbrev zec:Stmt:=top 35
noncomputable abbrev zhf:Stmt:=top 37
noncomputable abbrev zaG:Stmt:=inClass (top 41) 2
noncomputable abbrev zX:Stmt:=inClass (top 47) 0
noncomputable abbrev zaY:Stmt:=inClass (top 48) 0
noncomputable abbrev zd8:Stmt:=inClass (top 56) 0
noncomputable abbrev zeS:Stmt:=top 57
noncomputable abbrev ziL:Stmt:=top 59
noncomputable abbrev zg9:Stmt:=top 60
noncomputable abbrev zd4:Stmt:=top 65
noncomputable abbrev zc5:Stmt:=top 66
noncomputable abbrev zf1:Stmt:=top 73
noncomputable abbrev zdX:Stmt:=top 74
noncomputable abbrev zdD:Stmt:=top 76
noncomputable abbrev zbL:Stmt:=top 79
noncomputable abbrev zeM:Stmt:=top 82
noncomputable abbrev zb3:Stmt:=top 84
noncomputable abbrev zd5:Stmt:=top 87
noncomputable abbrev zfa:Stmt:=inClass (top 9) 12
noncomputable abbrev zf2:Stmt:=inClass (top 9) 8
noncomputable abbrev zeU:Stmt:=inClass (top 9) 7
noncomputable abbrev ze0:Stmt:=inClass (top 9) 10
noncomputable abbrev zi9:Stmt:=top 13
noncomputable abbrev zhb:Stmt:=top 38
noncomputable abbrev zda:Stmt:=top 64
noncomputable abbrev zc7:Stmt:=top 67
noncomputable abbrev zeQ:Stmt:=top 80
noncomputable abbrev zcC:Stmt:=top 89
noncomputable abbrev zdP:Stmt:=top 90
noncomputable abbrev zcE:Stmt:=top 93
noncomputable abbrev zhn:Stmt:=top 16
noncomputable abbrev zf5:Stmt:=top 19
noncomputable abbrev zbW:Stmt:=inClass (top 41) 3
noncomputable abbrev zc8:Stmt:=inClass (top 43) 2
noncomputable abbrev zd3:Stmt:=inClass (top 44) 2
noncomputable abbrev zeK:Stmt:=inClass (top 68) 0
noncomputable abbrev zeP:Stmt:=top 75
noncomputable abbrev ze2:Stmt:=top 85
noncomputable abbrev zav:Stmt:=inClass (top 41) 4
noncomputable abbrev zf7:Stmt:=top 91
noncomputable abbrev zd7:Stmt:=top 17
noncomputable abbrev ze9:Stmt:=top 77
noncomputable abbrev zcF:Stmt:=top 20
noncomputable abbrev zc1:Stmt:=top 21
noncomputable abbrev zhp:Stmt:=top 22
noncomputable abbrev zlT:Stmt:=top 23
noncomputable abbrev zlX:Stmt:=top 94
section
variable {P:Program} {w:World} {K:W.Frag} {mg:Str->Option Value} {base:Heap}
def zlh (K:W.Frag):Sp:=fun vs H Q _=>∃ (p:Addr) (xs:List V) (t:List (Int × Int)),vs=[.ref p]/\H p=some (.lst xs)/\zA K H xs t/\t.length<64/\(∀ s∈t,0<=s.1)/\∀ q H' ws (r:List (Int × Int)),H q=none->Same H H'->H' q=some (.lst ws)->zA K H' ws r->Stills.TabOf t r->r=(r.map (·.1)).map (fun d=>(d,Sums.valOf t d))->r.length<=t.length->Q (.ref q) H'
theorem zqT:zj qak qak (zh zf0):=by walk_at "sp"
theorem zse (S:Src K mg "table_of" zf0 qak) (T:Txt K mg)  : Def P w K mg base 1 "table_of" qak (zlh K):=by
 exists S.ok,zqT,0
 all_goals obtain ⟨p,xs,t,rfl,hp,hR,hl,t0,h⟩:=h
 ·rfl
 refine ⟨_,(zf (zo (zx (zkv rfl) rfl T.zbG PyProof.Rows.boot_sorted (za (zoG (zT (zdO rfl) rfl T.zfm PyProof.Rows.boot_dict (za (pv 0) zd))) zd)))),?_⟩
 nofun
 refine ⟨p,xs,t,rfl,hp,hR,hl,?_⟩
 intro d H1 nd s1 e1
 nofun
 refine ⟨d,_,rfl,e1,?_⟩
 intro v H2 nv s2 e2
 nofun
 have dl:=zqr t
 refine ⟨v,d,_,rfl,e2,s2 _ _ e1,by ac_rfl,?_⟩
 intro q H3 ws r nq s3 e3 hr' pm o
 obtain ⟨T1,e⟩:=Dct.tab t0 pm o
 exact h q H3 ws r (zM (s1.trans s2) nq) (s1.trans (s2.trans s3)) e3 hr' T1 e (by rw[pm.length_eq];exact dl)
def zi7 (K:W.Frag):Sp:=fun vs H Q _=>L2.Ee4 fun a xs (l:List Int) d=>L2.Aa5 (vs=[.ref a,.int d]) (SqL K H a xs) (RF H xs l) ((l.Pairwise (·<·))) (∀ n:Nat,zm6 l d n->Q (.int n) H)
theorem zer:zj ["rows", "day", "low", "high", "middle"] qat (zh zkI):=by walk_at "sp"
theorem zv6 (S:Src K mg "begun" zkI qat) (T:Txt K mg)  : Def P w K mg base 1 "begun" qat (zi7 K):=by
 exists S.ok,zer,0
 all_goals obtain ⟨a,xs,l,d,rfl,hS,hR,up,h⟩:=h
 ·rfl
 refine ⟨_,(zc (zk (i:=2) zer.nd rfl (by walk_at "lc") zb)
  (zc (zk (i:=3) zer.nd rfl (by walk_at "lc") (zx zaI rfl T.zdd PySem.boot_len (za (pv 0) zd)))
  (zc (zdp PassesOwn.never (zu ze3 (pv 2) (pv 3) (nomark _))
  (zc (zk (i:=4) zer.nd rfl (by walk_at "lc") (zi zba (zi zz (pv 2) (pv 3)) zb))
  (zf (zae (zu zc4 (zq zah (zq zB (pv 0) (pv 4) (fun _ _=>rfl)) zb (fun _ _=>rfl)) (pv 1) (nomark _))
  (zf (zk (i:=2) zer.nd rfl (by walk_at "lc") (zi zz (pv 4) zb)))
  (zf (zk (i:=3) zer.nd rfl (by walk_at "lc") (pv 4)))))))
  (zf (zo (pv 2)))))),?_⟩
 have xl:=hR.length
 nofun
 refine ⟨fun n σ H'=>H=H'/\∃ (lo hi:Nat) (z:Option V),σ=[some (.ref a),some (.int d),some (.int lo),some (.int hi),z]/\lo<=hi/\hi<=l.length/\(∀ i s,i<lo->l[i]?=some s->s<=d)/\(∀ i s,hi<=i->l[i]?=some s->d<s)/\n=hi-lo,⟨_,rfl,0,xs.length,_,rfl,ydb _,by ac_rfl,fun i s hi=>absurd hi (Nat.not_lt_zero _),fun i s hi e=>?_,rfl⟩,?_⟩
 ·have:=(yac.mp e).1
  ac_rfl
 rintro n σ H' ⟨rfl,lo,hi,z,rfl,lh,hl,below,above,rfl⟩
 nofun
 ·rename_i q
  refine ⟨_,fun σ' H' z=>z,?_⟩
  have em:((lo:Int)+hi) / 2=(((lo+hi) / 2:Nat):Int):=by ac_rfl
  have m1:lo<=(lo+hi) / 2:=by ac_rfl
  have m2:(lo+hi) / 2<hi:=by ac_rfl
  nofun
  generalize (lo+hi) / 2=m at m1 m2 em
  obtain ⟨s,es,p,ws,ex,hp⟩:=hR.get (yaa (by ac_rfl:m<xs.length))
  have at_:atI xs (((lo:Int)+hi) / 2)=some (.ref p):=em ▸ zaw (by rw[yaa (by ac_rfl:m<xs.length),ex])
  refine ⟨a,_,_,_,rfl,rfl,hS,at_,?_⟩
  have at0:atI (V.int s::ws) (0:Int)=some (.int s):=(zaw (by rfl):atI (V.int s::ws) ((0:Nat):Int)=some (.int s))
  nofun
  refine ⟨p,_,_,_,rfl,rfl,SqT.of hp,at0,?_⟩
  nofun
  ·rename_i q2
   refine ⟨hi-(m+1),by ac_rfl,rfl,m+1,hi,some (.int m),(by show [some (V.ref a),some (V.int d),some (V.int (((lo:Int)+hi) / 2+1)),some (V.int hi),some (V.int (((lo:Int)+hi) / 2))]=_;rw[em];rfl),by ac_rfl,hl,fun i t hi e=>?_,above,rfl⟩
   rcases ydo i m with c | c
   ·have:=zcN up e es c
    ac_rfl
   ·have:i=m:=by ac_rfl
    subst this
    rw[es] at e
    cases e
    exact q2
  ·rename_i q2
   refine ⟨m-lo,by ac_rfl,rfl,lo,m,some (.int m),(by show [some (V.ref a),some (V.int d),some (V.int lo),some (V.int (((lo:Int)+hi) / 2)),some (V.int (((lo:Int)+hi) / 2))]=_;rw[em]),by ac_rfl,by ac_rfl,below,fun i t hi e=>?_,rfl⟩
   rcases ydo m i with c | c
   ·have:=zcN up es e c
    ac_rfl
   ·have:i=m:=by ac_rfl
    subst this
    rw[es] at e
    cases e
    ac_rfl
 ·rename_i q
  have:lo=hi:=by ac_rfl
  subst this
  exact h lo ⟨hl,below,above⟩
def zdK (K:W.Frag):Sp:=fun vs H Q _=>∃ (q:Addr) (xs:List V) (l:List (Int × Int)),vs=[.ref q]/\H q=some (.lst xs)/\zA K H xs l/\l.length<=1000 /\
 ∀ p ws H',H p=none->Same H H'->H' p=some (.lst ws)->zA K H' ws (runs 0 l)->Q (.ref p) H'
theorem zbF:zj ["rows", "told", "total", "row"] ["rows"] (zh zcS):=by walk_at "sp"
theorem zna (S:Src K mg "running_sums" zcS ["rows"]) (T:Txt K mg)  : Def P w K mg base 1 "running_sums" ["rows"] (zdK K):=by
 exists S.ok,zbF,0
 all_goals obtain ⟨q,xs,l,rfl,hq,hR,hl,h⟩:=h
 ·rfl
 refine ⟨_,(zc (zk (i:=1) zbF.nd rfl (by walk_at "lc") (zat zd))
  (zc (zk (i:=2) zbF.nd rfl (by walk_at "lc") zb)
  (zc (zbQ PassesOwn.never rfl (zG (pv 0)) (zC (i:=3) zbF.nd rfl (by walk_at "lc"))
  (zc (zk (i:=2) zbF.nd rfl (by walk_at "lc") (zi zz (pv 2) (zq zah (pv 3) zb (fun _ _=>rfl))))
  (zf (zam (zfb PySem.F.plainAttrs_list PySem.F.slot_list_append PySem.F.type_list_append za7 (pv 1) (za (zap (za (zq zah (pv 3) zb (fun _ _=>rfl)) (za (pv 2) zd))) zd))))))
  (zf (zo (pv 1)))))),?_⟩
 have sz:=sizeLine_eq
 have xl:=hR.length
 nofun
 intro p np
 have s1:=ze np (.lst [])
 have eP:=zD (.lst []) np
 generalize upd H p (.lst [])=H1 at s1 eP ⊢
 nofun
 refine ⟨⟨_,SqL.of (s1 _ _ hq)⟩,zbH (xs:=xs) (fun i σ H'=>∃ (ws:List V) (z1:Option V),(Same H H'/\H' p=some (.lst ws))/\zA K H' ws (runs 0 (l.take i))/\σ=[some (.ref q),some (.ref p),some (.int (sum2 (l.take i))),z1])
  ⟨[],_,⟨s1,eP⟩,.nil,rfl⟩ ?_ ?_ ?_⟩
 ·rintro i σ H' _ ⟨ws,z1,⟨sH,_⟩,_⟩
  exact SqL.of (sH _ _ hq)
 ·rintro i x σ H' hx ⟨ws,z1,⟨sH,eP'⟩,hW,rfl⟩
  obtain ⟨u,s,rfl,hs,hu⟩:=(hR.same sH).get hx
  have il:i<l.length:=(yac.mp hs).1
  have wl:=hW.length
  rw[zuV,ybe] at wl
  have tk:l.take (i+1)=l.take i++[s]:=by rw[ybb,hs];rfl
  rw[tk,znw,ztN,yea]
  generalize sum2 (l.take i)=t at *
  nofun
  refine ⟨.inl ⟨rfl,_,SqL.of eP'⟩,?_⟩
  nofun
  intro v nv
  have s5:=ze nv (.tup [.int s.1,.int (t+s.2)])
  have ev:=zD (.tup [.int s.1,.int (t+s.2)]) nv
  have eP5:=s5 _ _ eP'
  refine ⟨p,_,_,rfl,rfl,eP5,by ac_rfl,?_⟩
  have ev6:(upd (upd H' v (.tup [.int s.1,.int (t+s.2)])) p (.lst (ws++[.ref v]))) v=some (.tup [.int s.1,.int (t+s.2)]):=by
   rw[zr (zau ev eP5 (by intro z;cases z))]
   exact ev
  exact ⟨ws++[.ref v],_,⟨zN (sH.trans s5) np,zg⟩,((hW.same s5).put eP5).push (s:=(s.1,t+s.2)) ev6,rfl⟩
 ·rintro σ H' ⟨ws,z1,⟨sH,eP'⟩,hW,rfl⟩
  rw[xl,ycd] at hW
  nofun
  exact h p ws H' np sH eP' hW
def zkl (K:W.Frag):Sp:=fun vs H Q _=>L2.Ee6 fun p dx u m n x=>L2.Aa3 (vs=[.ref p,.int x]) (Deb K H p dx u m n) (Q .non (upd H p (.ins (cA K "Debt") dx (zan u (Dbt.step u .grow x m n).1 (Dbt.step u .grow x m n).2))))
theorem zoz:zj qax qax (zh ze4):=by walk_at "sp"
theorem zqX (S:zp K (cA K "Debt") "grow" "Debt.grow" ze4 qax) (T:Txt K mg)  : zv P w K mg base 1 (cA K "Debt") "grow" qax (zkl K):=by
 exists S.ok,zoz,0
 all_goals obtain ⟨p,dx,u,m,n,x,rfl,e,h⟩:=h
 ·rfl
 refine ⟨_,(zf (zax T.zI T.zU (pv 0) (zi zz (zab T.zI T.zU (pv 0)) (pv 1)))),?_⟩
 nofun
 refine ⟨p,dx,_,_,rfl,e,rfl,?_⟩
 nofun
 refine ⟨p,dx,_,rfl,e,zbI,?_⟩
 rw[zrR]
 exact h
def zg5 (K:W.Frag):Sp:=fun vs H Q _=>∃ p dx u,vs=[.ref p,.int u]/\H p=some (.ins (cA K "Debt") dx [])/\Q .non (upd H p (.ins (cA K "Debt") dx (zan u 0 0)))
theorem zpZ:zj qau qau (zh ze1):=by walk_at "sp"
theorem zq9 (S:zp K (cA K "Debt") "__init__" "Debt.__init__" ze1 qau) (T:Txt K mg)  : zv P w K mg base 1 (cA K "Debt") "__init__" qau (zg5 K):=by
 exists S.ok,zpZ,0
 all_goals obtain ⟨p,dx,u,rfl,e,h⟩:=h
 ·rfl
 refine ⟨_,(zc (zax T.zI T.zaN (pv 0) (pv 1))
  (zc (zax T.zI T.zK (pv 0) zb)
  (zf (zax T.zI T.zU (pv 0) zb)))),?_⟩
 nofun
 refine ⟨p,dx,[],rfl,e,by decide,?_⟩
 nofun
 refine ⟨p,dx,_,rfl,zg,ydc (ycz 1) (by decide),?_⟩
 nofun
 refine ⟨p,dx,_,rfl,zg,ydc (ycz 2) (by decide),?_⟩
 rw[zZ,zZ]
 exact h
def zdF (K:W.Frag):Sp:=fun vs H Q _=>L2.Ee5 fun p dx u m n=>L2.Aa4 (vs=[.ref p]) (Deb K H p dx u m n) ((0<u/\u<1152921504606846976)) (Q (.int (n / u)) H)
theorem zpg:zj qaa qaa (zh zeY):=by walk_at "sp"
theorem zqQ (S:zp K (cA K "Debt") "owed" "Debt.owed" zeY qaa) (T:Txt K mg)  : zv P w K mg base 1 (cA K "Debt") "owed" qaa (zdF K):=by
 exists S.ok,zpg,0
 all_goals obtain ⟨p,dx,u,m,n,rfl,e,⟨u0,u1⟩,h⟩:=h
 ·rfl
 refine ⟨_,(zf (zo (zi zb2 (zab T.zI T.zU (pv 0)) (zab T.zI T.zaN (pv 0))))),?_⟩
 nofun
 refine ⟨p,dx,_,_,rfl,e,rfl,?_⟩
 nofun
 refine ⟨p,dx,_,_,rfl,e,rfl,?_⟩
 nofun
 exact h
def zcV (K:W.Frag):Sp:=fun vs H Q _=>L2.Ee5 fun p dx u m n=>L2.Aa3 (vs=[.ref p]) (Deb K H p dx u m n) (Q (.int m) H)
theorem zkX:zj qaa qaa (zh zcc):=by walk_at "sp"
theorem zlx (S:zp K (cA K "Debt") "principal" "Debt.principal" zcc qaa) (T:Txt K mg)  : zv P w K mg base 1 (cA K "Debt") "principal" qaa (zcV K):=by
 exists S.ok,zkX,0
 all_goals obtain ⟨p,dx,u,m,n,rfl,e,h⟩:=h
 ·rfl
 refine ⟨_,(zf (zo (zab T.zI T.zK (pv 0)))),?_⟩
 nofun
 refine ⟨p,dx,_,_,rfl,e,rfl,?_⟩
 exact h
def zjw (K:W.Frag):Sp:=fun vs H Q _=>L2.Ee5 fun p dx u m n=>L2.Aa3 (vs=[.ref p]) (Deb K H p dx u m n) (Q (.int n) H)
theorem znN:zj qaa qaa (zh zdN):=by walk_at "sp"
theorem zpQ (S:zp K (cA K "Debt") "units" "Debt.units" zdN qaa) (T:Txt K mg)  : zv P w K mg base 1 (cA K "Debt") "units" qaa (zjw K):=by
 exists S.ok,znN,0
 all_goals obtain ⟨p,dx,u,m,n,rfl,e,h⟩:=h
 ·rfl
 refine ⟨_,(zf (zo (zab T.zI T.zU (pv 0)))),?_⟩
 nofun
 refine ⟨p,dx,_,_,rfl,e,rfl,?_⟩
 exact h
def znF (K:W.Frag):Sp:=fun vs H Q _=>∃ (a:Addr) (xs:List V) (l:List (Int × Int)),vs=[.ref a]/\SqL K H a xs/\zA K H xs l/\l.length<64/\(∀ s∈l,s.1<s.2) /\
 ∀ p ys r H',Same H H'->H p=none->H' p=some (.lst ys)->zA K H' ys r->Spans.Joined r->(∀ d,Spans.Cov r d↔Spans.Cov l d)->r.length<=l.length->Q (.ref p) H'
theorem zr0 {K:W.Frag} {H:Hp} {ys:List V} {acc:List (Int × Int)} (r:zA K H ys acc) (h:0<ys.length):∃ ys' b acc' t,ys=ys'++[.ref b]/\acc=acc'++[t]/\H b=some (.tup [.int t.1,.int t.2])/\zA K H ys' acc':=by
 induction r with
 | nil=>simp at h
 | @cons p s xs l hp rr ih =>
  cases rr with
  | nil=>exact ⟨[],p,[],s,rfl,rfl,hp,.nil⟩
  | cons h2 rr2 =>
   obtain ⟨ys',b,acc',t,e1,e2,e3,e4⟩:=ih (by simp)
   exact ⟨.ref p::ys',b,s::acc',t,by rw[e1];rfl,by rw[e2];rfl,e3,.cons hp e4⟩
theorem zkt:zj ["spans", "told", "span"] ["spans"] (zh zjq):=by walk_at "sp"
theorem zt9 (S:Src K mg "joined" zjq ["spans"]) (T:Txt K mg)  : Def P w K mg base 1 "joined" ["spans"] (znF K):=by
 exists S.ok,zkt,0
 all_goals obtain ⟨a,xs,l,rfl,hS,hR,hl,ok,h⟩:=h
 ·rfl
 refine ⟨_,(zc (zk (i:=1) zkt.nd rfl (by walk_at "lc") (zat zd))
  (zc (zbQ PassesOwn.never rfl (zG (zx zpv rfl T.zbG PyProof.Rows.boot_sorted (za (pv 0) zd))) (zC (i:=2) zkt.nd rfl (by walk_at "lc"))
  (zf (zae (PW.pt (zee (zu zkE (zx zaI rfl T.zdd PySem.boot_len (za (pv 1) zd)) zb (nomark _)) (zdv (zu zc4 (zq zah (pv 2) zb (fun _ _=>rfl)) (zq zah (zq zB (pv 1) (ziK zgv zb) (fun _ _=>rfl)) zb (fun _ _=>rfl)) (nomark _)))))
  (zf (zfl (zap (za (zq zah (zq zB (pv 1) (ziK zgv zb) (fun _ _=>rfl)) zb (fun _ _=>rfl)) (za (zx (zbm rfl) rfl T.zcp PyProof.Rows.boot_max (za (zq zah (zq zB (pv 1) (ziK zgv zb) (fun _ _=>rfl)) zb (fun _ _=>rfl)) (za (zq zah (pv 2) zb (fun _ _=>rfl)) zd))) zd))) (zxg (pv 1) (ziK zgv zb) set_list)))
  (zf (zam (zfb PySem.F.plainAttrs_list PySem.F.slot_list_append PySem.F.type_list_append za7 (pv 1) (za (pv 2) zd)))))))
  (zf (zo (pv 1))))),?_⟩
 have sz:=sizeLine_eq
 have xl:=hR.length
 nofun
 intro p np
 have sp:=ze np (.lst [])
 nofun
 refine ⟨a,xs,l,rfl,sp.seq hS,hR.same sp,hl,?_⟩
 intro q H2 ws r nq sq eq rR pm srt
 have wl:=rR.length
 have rl:=pm.length_eq
 have s2:=sp.trans sq
 have eP2:=sq _ _ (zg (H:=H) (a:=p) (o:=.lst []))
 have npq:q≠p:=(zW (zg (H:=H) (a:=p) (o:=.lst [])) nq).symm
 refine ⟨q,rfl,⟨_,SqL.of eq⟩,zbH (xs:=ws) (fun i σ H'=>∃ (ys:List V) (acc:List (Int × Int)) (z:Option V),(Same H H'/\H' q=some (.lst ws)/\H' p=some (.lst ys))/\(zA K H' ys acc/\zA K H' ws r)/\Stills.JInv (r.take i) acc/\acc.length<=i/\σ=[some (.ref a),some (.ref p),z])
  ⟨[],[],_,⟨s2,eq,eP2⟩,⟨.nil,rR⟩,Stills.JInv.nil,ycz _,rfl⟩ ?_ ?_ ?_⟩
 ·rintro i σ H' _ ⟨ys,acc,z,⟨_,e,_⟩,_⟩
  exact SqL.of e
 ·rintro i x σ H' hx ⟨ys,acc,z,⟨sH,eQ,eP⟩,⟨rA,rW⟩,J,al,rfl⟩
  obtain ⟨u,s,rfl,hs,ht⟩:=rW.get hx
  have il:i<r.length:=(yac.mp hs).1
  have yl:=rA.length
  have up:=ok s (pm.mem_iff.mp (yae hs))
  have tk:r.take (i+1)=r.take i++[s]:=by rw[ybb,hs];rfl
  have hP:SqL K H' p ys:=SqL.of eP
  rw[tk]
  have t1':∀ t∈acc,t.1<=s.1:=fun t htt=>by
   obtain ⟨s',hs',e⟩:=J.f t htt
   obtain ⟨j,hj,ej⟩:=yba.mp hs'
   rw[ybe] at hj
   rw[List.getElem_take] at ej
   have:=yax.mp srt j i (by ac_rfl) il (by ac_rfl)
   rw[ej] at this
   have es:r[i]=s:=by
    have:=yaa il
    rw[hs] at this
    exact (Option.some.inj this).symm
   rw[es] at this
   ac_rfl
  nofun
  ·rename_i pos
   obtain ⟨ys',b,acc',t,e1,e2,hb,rA'⟩:=zr0 rA (by ac_rfl)
   subst e1 e2
   have yl':=rA'.length
   have atl:atI (ys'++[.ref b]) (-1)=some (.ref b):=zvA (by simp) (by simp)
   have le1:=t1' t (by simp)
   refine ⟨p,_,_,_,rfl,rfl,hP,atl,?_⟩
   nofun
   ·rename_i le2
    refine ⟨p,_,_,_,rfl,rfl,hP,atl,?_⟩
    nofun
    refine ⟨p,_,_,_,rfl,rfl,hP,atl,?_⟩
    nofun
    intro u2 nu2
    obtain ⟨m,hm⟩:∃ m:Int,m=if s.2 > t.2 then s.2 else t.2:=⟨_,rfl⟩
    rw[<-hm]
    have s5:=ze nu2 (.tup [.int t.1,.int m])
    have eP':=s5 _ _ eP
    have eQ':=s5 _ _ eQ
    nofun
    have ixe:ixN (ys'++[V.ref b]).length (-1)=some (ys'.length):=by
     unfold ixN
     rw[if_neg (by decide),if_pos (by rw[yai,ybr];ac_rfl),yai]
     show some ((-1:Int)+((ys'.length+1:Nat):Int)).toNat=_
     rw[show ((-1:Int)+((ys'.length+1:Nat):Int)).toNat=ys'.length by ac_rfl]
    refine ⟨p,_,_,_,rfl,rfl,eP',ixe,?_⟩
    have es:(ys'++[V.ref b]).set ys'.length (.ref u2)=ys'++[.ref u2]:=by
     rw[List.set_append_right _ _ (ycz _),ydn]
     rfl
    rw[es]
    have st2:(upd (upd H' u2 (.tup [.int t.1,.int m])) p (.lst (ys'++[.ref u2]))) u2=some (.tup [.int t.1,.int m]):=by
     rw[zr (zW eP nu2).symm]
     exact zg
    exact ⟨ys'++[.ref u2],acc'++[(t.1,m)],_,⟨zN (sH.trans s5) np,by rw[zr npq];exact eQ',zg⟩,⟨((rA'.same s5).put eP').push (s:=(t.1,m)) st2,(rW.same s5).put eP'⟩,J.grow up le1 le2 hm,by rw[yai] at al ⊢;exact Nat.le_succ_of_le al,rfl⟩
   ·rename_i gt
    refine ⟨.inl ⟨rfl,_,SqL.of eP⟩,?_⟩
    nofun
    refine ⟨p,_,_,rfl,rfl,eP,by ac_rfl,?_⟩
    have st2:(upd H' p (.lst (ys'++[.ref b]++[.ref u]))) u=some (.tup [.int s.1,.int s.2]):=by
     rw[zr (zau ht eP (by intro z;cases z))]
     exact ht
    exact ⟨ys'++[.ref b]++[.ref u],acc'++[t]++[s],_,⟨zN sH np,by rw[zr npq];exact eQ,zg⟩,⟨(rA.put eP).push (s:=s) st2,rW.put eP⟩,J.add up (by ac_rfl),by rw[yai];exact Nat.succ_le_succ al,rfl⟩
  ·rename_i no
   have y0:ys=[]:=by cases ys with | nil=>rfl | cons _ _=>exact absurd (by simp) no
   subst y0
   have a0:acc=[]:=by cases acc with | nil=>rfl | cons _ _=>simp at yl
   subst a0
   refine ⟨.inl ⟨rfl,_,SqL.of eP⟩,?_⟩
   nofun
   refine ⟨p,_,_,rfl,rfl,eP,by simp;ac_rfl,?_⟩
   have st2:(upd H' p (.lst ([]++[.ref u]))) u=some (.tup [.int s.1,.int s.2]):=by
    rw[zr (zau ht eP (by intro z;cases z))]
    exact ht
   exact ⟨[]++[.ref u],[]++[s],_,⟨zN sH np,by rw[zr npq];exact eQ,zg⟩,⟨(zA.put .nil eP).push (s:=s) st2,rW.put eP⟩,J.begin_ up,by simp,rfl⟩
 ·rintro σ H' ⟨ys,acc,z,⟨sH,eQ,eP⟩,⟨rA,rW⟩,J,al,rfl⟩
  rw[wl,yaz (ycz _)] at J
  nofun
  refine h p ys acc H' sH np eP rA J.j (fun d=>?_) (by ac_rfl)
  rw[J.c]
  exact Stills.zvY (fun s=>pm.mem_iff) d
def zlg (K:W.Frag):Sp:=fun vs H Q _=>∃ x T,vs=[x]/\zxh K H x T/\Q (.bl (decide (T = "int"))) H
theorem zqy:zj ["thing"] ["thing"] (zh zf3):=by walk_at "sp"
theorem zsc (S:Src K mg "is_whole" zf3 ["thing"]) (T:Txt K mg)  : Def P w K mg base 1 "is_whole" ["thing"] (zlg K):=by
 exists S.ok,zqy,0
 all_goals obtain ⟨x,Tk,rfl,hk,h⟩:=h
 ·rfl
 refine ⟨_,(zf (zo (zl7 (zx zk1 rfl T.zcA PyProof.Rows.boot_isinstance (za (pv 0) (za (zrl (v:=.ty "int") rfl T.zhq PyProof.Rows.boot_int rfl) zd))) (zis (zwK (zx zk1 rfl T.zcA PyProof.Rows.boot_isinstance (za (pv 0) (za (zrl (v:=.ty "bool") rfl T.zoN PyProof.Rows.boot_bool rfl) zd)))))))),?_⟩
 nofun
 refine ⟨_,_,_,_,rfl,hk.1,zwp hk.2,?_⟩
 nofun
 ·refine ⟨_,_,_,_,rfl,hk.1,zu1 hk.2,?_⟩
  nofun
  rename_i z
  exact qb h (by rcases z with rfl | rfl <;> decide)
 ·rename_i z
  exact qb h (decide_eq_false fun q=>z (.inl q))
def zjd (K:W.Frag):Sp:=fun vs H Q _=>∃ y,vs=[.int y]/\Q (.bl (Cal.leap y)) H
theorem zsK:zj qah qah (zh zhd):=by walk_at "sp"
theorem ztz (S:Src K mg "is_leap" zhd qah) (T:Txt K mg)  : Def P w K mg base 1 "is_leap" qah (zjd K):=by
 exists S.ok,zsK,0
 all_goals obtain ⟨y,rfl,h⟩:=h
 ·rfl
 refine ⟨_,(zf (zo (zl7 (zdz zaf (zi zL (pv 0) zb) zb (nomark _)) (zis (zvp (zdz zmw (zi zL (pv 0) zb) zb (nomark _)) (zis (zdz zaf (zi zL (pv 0) zb) zb (nomark _)))))))),?_⟩
 nofun
 all_goals exact qb h (by simp[Cal.leap,dI, *])
def zfc (K:W.Frag):Sp:=fun vs H Q _=>∃ y,vs=[.int y]/\Q (.int (Cal.ny y)) H
theorem zig:zj ["year", "years", "leaps"] qah (zh zfZ):=by walk_at "sp"
theorem zr8 (S:Src K mg "new_year" zfZ qah) (T:Txt K mg)  : Def P w K mg base 1 "new_year" qah (zfc K):=by
 exists S.ok,zig,0
 all_goals obtain ⟨y,rfl,h⟩:=h
 ·rfl
 refine ⟨_,(zc (zk (i:=1) zig.nd rfl (by walk_at "lc") (zi zak (pv 0) (zcK T.zbS)))
  (zc (zk (i:=2) zig.nd rfl (by walk_at "lc") (zi zz (zi zak (zi zba (zi zz (pv 1) zb) zb) (zi zba (zi zz (pv 1) zb) zb)) (zi zba (zi zz (pv 1) zb) zb)))
  (zf (zo (zi zz (zi zaj zb (pv 1)) (pv 2)))))),?_⟩
 nofun
 all_goals exact qi h (by unfold Cal.ny;ac_rfl)
noncomputable def yr:Kd->Int
 | .plain=>365
 | .bank=>360
 | .thirty=>360
 | .exact=>133590
def zcw (kd:Kd) (K:W.Frag):Sp:=fun vs H Q _=>∃ a,vs=[.ref a]/\Q (.int (yr kd)) H
theorem znY:zj qaa qaa (zh zed):=by walk_at "sp"
theorem zoA (kd:Kd) (hk:kd=.plain) (S:zp K (cA K kd.cls) "year" "Count.year" zed qaa) (T:Txt K mg)  : zv P w K mg base 1 (cA K kd.cls) "year" qaa (zcw kd K):=by
 subst hk
 exists S.ok,znY,0
 all_goals obtain ⟨a,rfl,h⟩:=h
 ·rfl
 refine ⟨_,(zf (zo zb)),?_⟩
 nofun
 exact h
theorem zp1:zj qaa qaa (zh zeW):=by walk_at "sp"
theorem zqp (kd:Kd) (hk:kd=.bank) (S:zp K (cA K kd.cls) "year" "Bank.year" zeW qaa) (T:Txt K mg)  : zv P w K mg base 1 (cA K kd.cls) "year" qaa (zcw kd K):=by
 subst hk
 exists S.ok,zp1,0
 all_goals obtain ⟨a,rfl,h⟩:=h
 ·rfl
 refine ⟨_,(zf (zo zb)),?_⟩
 nofun
 exact h
theorem zni:zj qaa qaa (zh zc6):=by walk_at "sp"
theorem zod (kd:Kd) (hk:kd=.thirty) (S:zp K (cA K kd.cls) "year" "Thirty.year" zc6 qaa) (T:Txt K mg)  : zv P w K mg base 1 (cA K kd.cls) "year" qaa (zcw kd K):=by
 subst hk
 exists S.ok,zni,0
 all_goals obtain ⟨a,rfl,h⟩:=h
 ·rfl
 refine ⟨_,(zf (zo zb)),?_⟩
 nofun
 exact h
theorem zol:zj qaa qaa (zh zea):=by walk_at "sp"
theorem zp9 (kd:Kd) (hk:kd=.exact) (S:zp K (cA K kd.cls) "year" "Exact.year" zea qaa) (T:Txt K mg)  : zv P w K mg base 1 (cA K kd.cls) "year" qaa (zcw kd K):=by
 subst hk
 exists S.ok,zol,0
 all_goals obtain ⟨a,rfl,h⟩:=h
 ·rfl
 refine ⟨_,(zf (zo (zi zaj zb zb))),?_⟩
 nofun
 exact h
def zbB (K:W.Frag):Sp:=fun vs H Q _=>L2.Ee5 fun p C dx (fs:List (Str × V)) d=>L2.Aa6 (vs=[.ref p,.int d]) (H p=some (.ins C dx fs)) (Cls K C) (zV K C "day") (fs.length<1000) (Q .non (upd H p (.ins C dx (zaM "day" (.int d) fs))))
theorem zjG:zj qab qab (zh zbu):=by walk_at "sp"
theorem zo6 (x:Str) (S:zp K (cA K x) "__init__" "Entry.__init__" zbu qab) (T:Txt K mg)  : zv P w K mg base 1 (cA K x) "__init__" qab (zbB K):=by
 exists S.ok,zjG,0
 all_goals obtain ⟨p,C,dx,fs,d,rfl,e,hc,hn,hl,h⟩:=h
 ·rfl
 refine ⟨_,(zf (zks (pv 0) (pv 1) rfl)),?_⟩
 nofun
 refine ⟨p,C,dx,fs,rfl,e,hc,hn,hl,?_⟩
 exact h
theorem znO (S:zoJ K (cA K "Entry") "__init__" "Entry.__init__" zbu qab) (T:Txt K mg)  : zmI P w K mg base 1 (cA K "Entry") "__init__" qab (zbB K):=by
 exists S.ok,zjG,0
 all_goals obtain ⟨p,C,dx,fs,d,rfl,e,hc,hn,hl,h⟩:=h
 ·rfl
 refine ⟨_,(zf (zks (pv 0) (pv 1) rfl)),?_⟩
 nofun
 refine ⟨p,C,dx,fs,rfl,e,hc,hn,hl,?_⟩
 exact h
def zaD (k:Ek) (K:W.Frag):Sp:=fun vs H Q _=>∃ a,vs=[.ref a]/\Q (.str k.word) H
theorem zn0:zj qaa qaa (zh zd9):=by walk_at "sp"
theorem zpE (kd:Ek) (hk:kd=.base) (S:zp K (cA K kd.cls) "word" "Entry.word" zd9 qaa) (T:Txt K mg)  : zv P w K mg base 1 (cA K kd.cls) "word" qaa (zaD kd K):=by
 subst hk
 exists S.ok,zn0,0
 all_goals obtain ⟨a,rfl,h⟩:=h
 ·rfl
 refine ⟨_,(zf (zo zy)),?_⟩
 nofun
 exact h
theorem zre:zj qaa qaa (zh zf6):=by walk_at "sp"
theorem zsE (kd:Ek) (hk:kd=.out) (S:zp K (cA K kd.cls) "word" "Out.word" zf6 qaa) (T:Txt K mg)  : zv P w K mg base 1 (cA K kd.cls) "word" qaa (zaD kd K):=by
 subst hk
 exists S.ok,zre,0
 all_goals obtain ⟨a,rfl,h⟩:=h
 ·rfl
 refine ⟨_,(zf (zo zy)),?_⟩
 nofun
 exact h
theorem zqO:zj qaa qaa (zh zfV):=by walk_at "sp"
theorem zsq (kd:Ek) (hk:kd=.fee) (S:zp K (cA K kd.cls) "word" "Fee.word" zfV qaa) (T:Txt K mg)  : zv P w K mg base 1 (cA K kd.cls) "word" qaa (zaD kd K):=by
 subst hk
 exists S.ok,zqO,0
 all_goals obtain ⟨a,rfl,h⟩:=h
 ·rfl
 refine ⟨_,(zf (zo zy)),?_⟩
 nofun
 exact h
theorem zqG:zj qaa qaa (zh zfX):=by walk_at "sp"
theorem zsA (kd:Ek) (hk:kd=.pay) (S:zp K (cA K kd.cls) "word" "Pay.word" zfX qaa) (T:Txt K mg)  : zv P w K mg base 1 (cA K kd.cls) "word" qaa (zaD kd K):=by
 subst hk
 exists S.ok,zqG,0
 all_goals obtain ⟨a,rfl,h⟩:=h
 ·rfl
 refine ⟨_,(zf (zo zy)),?_⟩
 nofun
 exact h
theorem zq3:zj qaa qaa (zh zfW):=by walk_at "sp"
theorem zrV (kd:Ek) (hk:kd=.due) (S:zp K (cA K kd.cls) "word" "Due.word" zfW qaa) (T:Txt K mg)  : zv P w K mg base 1 (cA K kd.cls) "word" qaa (zaD kd K):=by
 subst hk
 exists S.ok,zq3,0
 all_goals obtain ⟨a,rfl,h⟩:=h
 ·rfl
 refine ⟨_,(zf (zo zy)),?_⟩
 nofun
 exact h
theorem zpx:zj qaa qaa (zh ze8):=by walk_at "sp"
theorem zqz (kd:Ek) (hk:kd=.turn) (S:zp K (cA K kd.cls) "word" "Turn.word" ze8 qaa) (T:Txt K mg)  : zv P w K mg base 1 (cA K kd.cls) "word" qaa (zaD kd K):=by
 subst hk
 exists S.ok,zpx,0
 all_goals obtain ⟨a,rfl,h⟩:=h
 ·rfl
 refine ⟨_,(zf (zo zy)),?_⟩
 nofun
 exact h
theorem zp5:zj qaa qaa (zh zfd):=by walk_at "sp"
theorem zq4 (kd:Ek) (hk:kd=.rate) (S:zp K (cA K kd.cls) "word" "Rate.word" zfd qaa) (T:Txt K mg)  : zv P w K mg base 1 (cA K kd.cls) "word" qaa (zaD kd K):=by
 subst hk
 exists S.ok,zp5,0
 all_goals obtain ⟨a,rfl,h⟩:=h
 ·rfl
 refine ⟨_,(zf (zo zy)),?_⟩
 nofun
 exact h
theorem zpa:zj qaa qaa (zh zeX):=by walk_at "sp"
theorem zqA (kd:Ek) (hk:kd=.late) (S:zp K (cA K kd.cls) "word" "Late.word" zeX qaa) (T:Txt K mg)  : zv P w K mg base 1 (cA K kd.cls) "word" qaa (zaD kd K):=by
 subst hk
 exists S.ok,zpa,0
 all_goals obtain ⟨a,rfl,h⟩:=h
 ·rfl
 refine ⟨_,(zf (zo zy)),?_⟩
 nofun
 exact h
theorem znX:zj qaa qaa (zh zdR):=by walk_at "sp"
theorem zo0 (kd:Ek) (hk:kd=.still) (S:zp K (cA K kd.cls) "word" "Still.word" zdR qaa) (T:Txt K mg)  : zv P w K mg base 1 (cA K kd.cls) "word" qaa (zaD kd K):=by
 subst hk
 exists S.ok,znX,0
 all_goals obtain ⟨a,rfl,h⟩:=h
 ·rfl
 refine ⟨_,(zf (zo zy)),?_⟩
 nofun
 exact h
theorem zgl:∀ {xs ys:List Int},xs.Nodup->(∀ x∈xs,x∈ys)->xs.length<=ys.length
 | [],_,_,_=>ydb _
 | x::xs,ys,nd,h=>by
  have hx:=h x yas
  obtain ⟨nx,nd'⟩:=ybj.mp nd
  have:=zgl (ys:=ys.erase x) nd' fun z hz=>(ycm (fun (q:z=x)=>nx (by rw[<-q];exact hz))).mpr (h z (yam _ hz))
  rw[ybx hx] at this
  have:=ybp hx
  rw[ybc]
  omega
def zjQ (K:W.Frag):Sp:=fun vs H Q _=>∃ (p:Addr) (xs:List V) (l:List (Int × Int)),vs=[.ref p]/\H p=some (.lst xs)/\zA K H xs l/\l.length<=61 /\
 ∀ q H' ws r,H q=none->Same H H'->H' q=some (.lst ws)->zA K H' ws r->Sby.Tab r l->Q (.ref q) H'
theorem zki:zj ["pairs", "sums", "pair"] qak (zh zjb):=by walk_at "sp"
theorem zud (S:Src K mg "summed" zjb qak) (T:Txt K mg)  : Def P w K mg base 1 "summed" qak (zjQ K):=by
 exists S.ok,zki,0
 all_goals obtain ⟨p,xs,l,rfl,ep,hR,hl,h⟩:=h
 ·rfl
 refine ⟨_,(zc (zk (i:=1) zki.nd rfl (by walk_at "lc") zuu)
  (zc (zbQ PassesOwn.never rfl (zG (pv 0)) (zC (i:=2) zki.nd rfl (by walk_at "lc"))
  (zf (zwq (pv 1) (zq zah (pv 2) zb (fun _ _=>rfl)) (zi zz (zrq (pv 1) (zq zah (pv 2) zb (fun _ _=>rfl)) zb) (zq zah (pv 2) zb (fun _ _=>rfl))))))
  (zf (zo (zx (zkv rfl) rfl T.zbG PyProof.Rows.boot_sorted (za (zoG (pv 1)) zd)))))),?_⟩
 nofun
 intro d nd
 have sd:=ze nd (zb8 P w d [])
 have ed:=zD (zb8 P w d []) nd
 have small:∀ {acc:List (Int × Int)} {n:Nat},Sby.Tot acc (l.take n)->acc.length<=61:=fun {acc n} t=>by
  have:=zgl t.nd fun k hk=>(t.mem k).mp hk
  rw[yab,yab,ybe] at this
  ac_rfl
 nofun
 refine ⟨⟨_,SqL.of (sd _ _ ep)⟩,zbH (xs:=xs) (fun i σ H'=>∃ (acc:List (Int × Int)) (z:Option V),(Same H H'/\H' d=some (zb8 P w d acc))/\Sby.Tot acc (l.take i)/\σ=[some (.ref p),some (.ref d),z]) ⟨[],_,⟨sd,ed⟩,by rw[List.take_zero];exact Sby.Tot.nil,rfl⟩ ?_ ?_ ?_⟩
 ·rintro i σ H' _ ⟨acc,z,⟨sH,_⟩,_⟩
  exact SqL.of (sH _ _ ep)
 ·rintro i x σ H' hx ⟨acc,z,⟨sH,eD⟩,tt,rfl⟩
  obtain ⟨t,s,rfl,hs,ht⟩:=(hR.same sH).get hx
  have al:=small tt
  nofun
  refine ⟨d,acc,rfl,eD,?_⟩
  nofun
  refine ⟨eD,?_⟩
  rw[tt.look]
  nofun
  refine ⟨d,acc,s.1,_,rfl,rfl,rfl,eD,yde al (by decide),?_⟩
  refine ⟨zal acc s.1 (Sby.sm (l.take i) s.1+s.2),_,⟨zN sH nd,zg⟩,?_,rfl⟩
  rw[ybb,hs]
  exact tt.step s.1 s.2
 ·rintro σ H' ⟨acc,z,⟨sH,eD⟩,tt,rfl⟩
  have al:=small tt
  rw[hR.length,ycd] at tt
  nofun
  refine ⟨d,acc,rfl,eD,fun v H2 nv s2 ev=>?_⟩
  nofun
  refine ⟨v,d,acc,rfl,ev,s2 _ _ eD,by ac_rfl,fun q H3 ws r nq s3 eq hr' pm up=>?_⟩
  exact h q H3 ws r (zM (sH.trans s2) nq) (sH.trans (s2.trans s3)) eq hr' (tt.tab pm up)
def zjC (K:W.Frag):Sp:=fun vs H Q _=>∃ (a:Addr) (A:BkA) (b:BkT),vs=[.ref a]/\zbd K H a A b/\Q (.ref A.c) H
theorem zoc:zj qaa qaa (zh zdB):=by walk_at "sp"
theorem zpS (S:zp K (cA K "Book") "count" "Book.count" zdB qaa) (T:Txt K mg)  : zv P w K mg base 1 (cA K "Book") "count" qaa (zjC K):=by
 exists S.ok,zoc,0
 all_goals obtain ⟨a,A,b,rfl,B,h⟩:=h
 ·rfl
 refine ⟨_,(zf (zo (zab T.zF T.zbM (pv 0)))),?_⟩
 nofun
 refine ⟨a,A.dx,_,_,rfl,B.ins,rfl,?_⟩
 exact h
def zfS (K:W.Frag):Sp:=fun vs H Q _=>∃ (a:Addr) (A:BkA) (b:BkT),vs=[.ref a]/\zbd K H a A b/\b.outs.length+b.fees.length+b.pays.length+b.turns.length<63 /\
 ∀ p (ns:List Int) H',H p=none->Same H H'->H' p=some (.lst (ns.map V.int))->ns.Pairwise (·<·)->(∀ d,d∈ns↔DDay b d)->ns.length<=b.outs.length+b.fees.length+b.pays.length+b.turns.length->Q (.ref p) H'
theorem zfT:zj ["self", "days"] qaa (zh zb4):=by walk_at "sp"
theorem zlz (S:zp K (cA K "Book") "deed_days" "Book.deed_days" zb4 qaa) (T:Txt K mg)  : zv P w K mg base 1 (cA K "Book") "deed_days" qaa (zfS K):=by
 exists S.ok,zfT,0
 all_goals obtain ⟨a,A,b,rfl,B,osz,h⟩:=h
 ·rfl
 refine ⟨_,(zc (zrz (i:=1) zfT.nd rfl rfl (ix:=[]) ⟨rfl,by decide +kernel,rfl,by decide +kernel,rfl,(show (["row"]:List Str).Nodup by decide +kernel),by walk_at "cap", by walk_at "sub", by walk_at "has"⟩ (zG (zi zcg (zi zcg (zab T.zF T.zbx (pv 0)) (zab T.zF T.zbt (pv 0))) (zab T.zF T.zbw (pv 0)))) (fun b=>(zq (zaz K) (pv 0) zb (fun _ _=>rfl))))
  (zf (zo (zx (zcy rfl) rfl T.zbG PyProof.Rows.boot_sorted (za (zT (zfg rfl) rfl T.ziZ PyProof.Rows.boot_set (za (zi zcg (pv 1) (zab T.zF T.zbg (pv 0))) zd)) zd))))),?_⟩
 have sz:=sizeLine_eq
 obtain ⟨x1,e1,r1,l1⟩:=B.outs
 obtain ⟨x2,e2,r2,l2⟩:=B.fees
 obtain ⟨x3,e3,r3,l3⟩:=B.pays
 have c1:=r1.length
 have c2:=r2.length
 have c3:=r3.length
 nofun
 refine ⟨a,A.dx,_,_,rfl,B.ins,rfl,?_⟩
 nofun
 refine ⟨a,A.dx,_,_,rfl,B.ins,rfl,?_⟩
 nofun
 refine ⟨A.o,A.f,x1,x2,rfl,rfl,e1,e2,by ac_rfl,fun q3 n3=>?_⟩
 have t3:=ze n3 (.lst (x1++x2))
 have f3:=zD (.lst (x1++x2)) n3
 have B3:=B.same t3
 nofun
 refine ⟨a,A.dx,_,_,rfl,B3.ins,rfl,?_⟩
 nofun
 refine ⟨q3,A.p,x1++x2,x3,rfl,rfl,f3,t3 _ _ e3,by rw[yai];ac_rfl,fun q5 n5=>?_⟩
 have t5:=ze n5 (.lst (x1++x2++x3))
 have f5:=zD (.lst (x1++x2++x3)) n5
 have s5:=t3.trans t5
 have rX:zA K _ (x1++x2++x3) (b.outs++b.fees++b.pays):=ziO (ziO (r1.same s5) (r2.same s5)) (r3.same s5)
 have B5:=B.same s5
 generalize upd (upd H q3 (.lst (x1++x2))) q5 (.lst (x1++x2++x3))=H5 at rX s5 f5 B5 ⊢
 have xl:=rX.length
 nofun
 refine ⟨⟨_,SqL.of f5⟩,fun l6 n6=>?_⟩
 have gd:∀ (u:List (Int × Int)) (f:Int × Int->Int) (i:Nat) (s:Int × Int),u[i]?=some s->(u.map f).getD i 0=f s:=fun u f i s e=>by
  rw[yad,yaj,e];rfl
 have xl2:(x1++x2++x3).length<=63:=by rw[yai,yai];ac_rfl
 refine zkr (fun i v=>v=.int (((b.outs++b.fees++b.pays).map (·.1)).getD i 0)) (SqL.of f5) n6 (by ac_rfl) ?_ ?_
 ·intro i x H' Q' hx sH hq
  obtain ⟨p,s,rfl,e,ht⟩:=rX.get hx
  nofun
  exact ⟨p,_,_,_,rfl,rfl,SqT.of (sH _ _ ht),rfl,hq _ (by rw[gd _ _ i s e])⟩
 intro ys1 len1 hp1
 obtain rfl:=zmZ (ns:=(b.outs++b.fees++b.pays).map (·.1)) (by rw[len1,yab,xl]) hp1
 have s6:=ze n6 (.lst (((b.outs++b.fees++b.pays).map (·.1)).map V.int))
 have e6:=zD (.lst (((b.outs++b.fees++b.pays).map (·.1)).map V.int)) n6
 have kl:((b.outs++b.fees++b.pays).map (·.1)).length=b.outs.length+b.fees.length+b.pays.length:=by rw[yab,yai,yai]
 have B6:=B5.same s6
 generalize hD1:(b.outs++b.fees++b.pays).map (·.1)=D1 at *
 nofun
 refine ⟨a,A.dx,_,_,rfl,B6.ins,rfl,?_⟩
 nofun
 refine ⟨l6,A.t,_,_,rfl,rfl,e6,B6.turns,by rw[yab,yab];ac_rfl,fun q7 n7=>?_⟩
 have cat:D1.map V.int++b.turns.map V.int=(D1++b.turns).map V.int:=by rw[yau]
 rw[cat]
 have s7:=ze n7 (.lst ((D1++b.turns).map V.int))
 have e7:=zD (.lst ((D1++b.turns).map V.int)) n7
 have s07:=s5.trans (s6.trans s7)
 generalize upd (upd H5 l6 (.lst (D1.map V.int))) q7 (.lst ((D1++b.turns).map V.int))=H7 at s07 e7 ⊢
 have dl:(D1++b.turns).length=b.outs.length+b.fees.length+b.pays.length+b.turns.length:=by rw[yai];ac_rfl
 nofun
 refine ⟨q7,_,rfl,SqL.of e7,by ac_rfl,fun pS HS ms nPS sPS ePS2 nd mm lm=>?_⟩
 nofun
 refine ⟨pS,ms,rfl,ePS2,by ac_rfl,fun pR HR ns nPR sPR ePR pm up=>?_⟩
 refine h pR ns HR (zM (s07.trans sPS) nPR) (s07.trans (sPS.trans sPR)) ePR (zhc pm nd up) (fun d=>?_) (by rw[pm.length_eq];ac_rfl)
 rw[pm.mem_iff,mm,yaf,<-hD1]
 exact Iff.rfl
def zg8 (K:W.Frag):Sp:=fun vs H Q _=>∃ (a:Addr) (A:BkA) (b:BkT),vs=[.ref a]/\zbd K H a A b/\∀ q xs,H q=none->zA K H xs b.dues->b.dues.length<=1000->Q (.ref q) (upd H q (.lst xs))
theorem zoL:zj qaa qaa (zh zeZ):=by walk_at "sp"
theorem zqL (S:zp K (cA K "Book") "dues" "Book.dues" zeZ qaa) (T:Txt K mg)  : zv P w K mg base 1 (cA K "Book") "dues" qaa (zg8 K):=by
 exists S.ok,zoL,0
 all_goals obtain ⟨a,A,b,rfl,B,h⟩:=h
 ·rfl
 refine ⟨_,(zf (zo (zT zaU rfl T.zcv PyProof.Rows.boot_list (za (zab T.zF T.zca (pv 0)) zd)))),?_⟩
 obtain ⟨xs,e,hR,hl⟩:=B.dues
 nofun
 refine ⟨a,A.dx,_,_,rfl,B.ins,rfl,?_⟩
 nofun
 exact ⟨A.d,xs,rfl,.inl (SqL.of e),fun q nq=>h q xs nq hR hl⟩
def zj0 (K:W.Frag):Sp:=fun vs H Q _=>∃ (a:Addr) (A:BkA) (b:BkT),vs=[.ref a]/\zbd K H a A b/\∀ q xs,H q=none->zA K H xs b.fees->b.fees.length<=1000->Q (.ref q) (upd H q (.lst xs))
theorem zpR:zj qaa qaa (zh zfe):=by walk_at "sp"
theorem zqZ (S:zp K (cA K "Book") "fees" "Book.fees" zfe qaa) (T:Txt K mg)  : zv P w K mg base 1 (cA K "Book") "fees" qaa (zj0 K):=by
 exists S.ok,zpR,0
 all_goals obtain ⟨a,A,b,rfl,B,h⟩:=h
 ·rfl
 refine ⟨_,(zf (zo (zT zaU rfl T.zcv PyProof.Rows.boot_list (za (zab T.zF T.zbt (pv 0)) zd)))),?_⟩
 obtain ⟨xs,e,hR,hl⟩:=B.fees
 nofun
 refine ⟨a,A.dx,_,_,rfl,B.ins,rfl,?_⟩
 nofun
 exact ⟨A.f,xs,rfl,.inl (SqL.of e),fun q nq=>h q xs nq hR hl⟩
def zfC (K:W.Frag):Sp:=fun vs H Q _=>∃ (a:Addr) (A:BkA) (b:BkT),vs=[.ref a]/\zbd K H a A b/\Q (.int b.g) H
theorem zn2:zj qaa qaa (zh zdQ):=by walk_at "sp"
theorem zoP (S:zp K (cA K "Book") "grace" "Book.grace" zdQ qaa) (T:Txt K mg)  : zv P w K mg base 1 (cA K "Book") "grace" qaa (zfC K):=by
 exists S.ok,zn2,0
 all_goals obtain ⟨a,A,b,rfl,B,h⟩:=h
 ·rfl
 refine ⟨_,(zf (zo (zab T.zF T.zbJ (pv 0)))),?_⟩
 nofun
 refine ⟨a,A.dx,_,_,rfl,B.ins,rfl,?_⟩
 exact h
def zfH (K:W.Frag):Sp:=fun vs H Q _=>∃ (a:Addr) (A:BkA) (b:BkT),vs=[.ref a]/\zbd K H a A b/\∀ q xs,H q=none->zA K H xs b.lates->b.lates.length<=1000->Q (.ref q) (upd H q (.lst xs))
theorem znZ:zj qaa qaa (zh zd0):=by walk_at "sp"
theorem zo5 (S:zp K (cA K "Book") "lates" "Book.lates" zd0 qaa) (T:Txt K mg)  : zv P w K mg base 1 (cA K "Book") "lates" qaa (zfH K):=by
 exists S.ok,znZ,0
 all_goals obtain ⟨a,A,b,rfl,B,h⟩:=h
 ·rfl
 refine ⟨_,(zf (zo (zT zaU rfl T.zcv PyProof.Rows.boot_list (za (zab T.zF T.zbP (pv 0)) zd)))),?_⟩
 obtain ⟨xs,e,hR,hl⟩:=B.lates
 nofun
 refine ⟨a,A.dx,_,_,rfl,B.ins,rfl,?_⟩
 nofun
 exact ⟨A.l,xs,rfl,.inl (SqL.of e),fun q nq=>h q xs nq hR hl⟩
def zjI (K:W.Frag):Sp:=fun vs H Q _=>∃ (a:Addr) (A:BkA) (b:BkT),vs=[.ref a]/\zbd K H a A b/\∀ q xs,H q=none->zA K H xs b.outs->b.outs.length<=1000->Q (.ref q) (upd H q (.lst xs))
theorem zpM:zj qaa qaa (zh zeL):=by walk_at "sp"
theorem zqU (S:zp K (cA K "Book") "outs" "Book.outs" zeL qaa) (T:Txt K mg)  : zv P w K mg base 1 (cA K "Book") "outs" qaa (zjI K):=by
 exists S.ok,zpM,0
 all_goals obtain ⟨a,A,b,rfl,B,h⟩:=h
 ·rfl
 refine ⟨_,(zf (zo (zT zaU rfl T.zcv PyProof.Rows.boot_list (za (zab T.zF T.zbx (pv 0)) zd)))),?_⟩
 obtain ⟨xs,e,hR,hl⟩:=B.outs
 nofun
 refine ⟨a,A.dx,_,_,rfl,B.ins,rfl,?_⟩
 nofun
 exact ⟨A.o,xs,rfl,.inl (SqL.of e),fun q nq=>h q xs nq hR hl⟩
def zdT (K:W.Frag):Sp:=fun vs H Q _=>∃ (a:Addr) (A:BkA) (b:BkT),vs=[.ref a]/\zbd K H a A b/\∀ q xs,H q=none->zA K H xs b.pays->b.pays.length<=1000->Q (.ref q) (upd H q (.lst xs))
theorem zqm:zj qaa qaa (zh zeO):=by walk_at "sp"
theorem zrc (S:zp K (cA K "Book") "pays" "Book.pays" zeO qaa) (T:Txt K mg)  : zv P w K mg base 1 (cA K "Book") "pays" qaa (zdT K):=by
 exists S.ok,zqm,0
 all_goals obtain ⟨a,A,b,rfl,B,h⟩:=h
 ·rfl
 refine ⟨_,(zf (zo (zT zaU rfl T.zcv PyProof.Rows.boot_list (za (zab T.zF T.zbw (pv 0)) zd)))),?_⟩
 obtain ⟨xs,e,hR,hl⟩:=B.pays
 nofun
 refine ⟨a,A.dx,_,_,rfl,B.ins,rfl,?_⟩
 nofun
 exact ⟨A.p,xs,rfl,.inl (SqL.of e),fun q nq=>h q xs nq hR hl⟩
def zfv (K:W.Frag):Sp:=fun vs H Q _=>∃ (a:Addr) (A:BkA) (b:BkT),vs=[.ref a]/\zbd K H a A b/\∀ q xs,H q=none->zA K H xs b.rates->b.rates.length<=1000->Q (.ref q) (upd H q (.lst xs))
theorem zog:zj qaa qaa (zh zd1):=by walk_at "sp"
theorem zqb (S:zp K (cA K "Book") "rates" "Book.rates" zd1 qaa) (T:Txt K mg)  : zv P w K mg base 1 (cA K "Book") "rates" qaa (zfv K):=by
 exists S.ok,zog,0
 all_goals obtain ⟨a,A,b,rfl,B,h⟩:=h
 ·rfl
 refine ⟨_,(zf (zo (zT zaU rfl T.zcv PyProof.Rows.boot_list (za (zab T.zF T.zbO (pv 0)) zd)))),?_⟩
 obtain ⟨xs,e,hR,hl⟩:=B.rates
 nofun
 refine ⟨a,A.dx,_,_,rfl,B.ins,rfl,?_⟩
 nofun
 exact ⟨A.r,xs,rfl,.inl (SqL.of e),fun q nq=>h q xs nq hR hl⟩
def zeu (K:W.Frag):Sp:=fun vs H Q _=>∃ (a:Addr) (A:BkA) (b:BkT),vs=[.ref a]/\zbd K H a A b/\∀ q xs,H q=none->zA K H xs b.spans->b.spans.length<=1000->Q (.ref q) (upd H q (.lst xs))
theorem zmJ:zj qaa qaa (zh zdb):=by walk_at "sp"
theorem zob (S:zp K (cA K "Book") "stills" "Book.stills" zdb qaa) (T:Txt K mg)  : zv P w K mg base 1 (cA K "Book") "stills" qaa (zeu K):=by
 exists S.ok,zmJ,0
 all_goals obtain ⟨a,A,b,rfl,B,h⟩:=h
 ·rfl
 refine ⟨_,(zf (zo (zT zaU rfl T.zcv PyProof.Rows.boot_list (za (zab T.zF T.zci (pv 0)) zd)))),?_⟩
 obtain ⟨xs,e,hR,hl⟩:=B.spans
 nofun
 refine ⟨a,A.dx,_,_,rfl,B.ins,rfl,?_⟩
 nofun
 exact ⟨A.s,xs,rfl,.inl (SqL.of e),fun q nq=>h q xs nq hR hl⟩
def zju (K:W.Frag):Sp:=fun vs H Q _=>∃ (a:Addr) (A:BkA) (b:BkT),vs=[.ref a]/\zbd K H a A b/\∀ q,H q=none->Q (.ref q) (upd H q (.lst (b.turns.map V.int)))
theorem zoi:zj qaa qaa (zh zdL):=by walk_at "sp"
theorem zo3 (S:zp K (cA K "Book") "turns" "Book.turns" zdL qaa) (T:Txt K mg)  : zv P w K mg base 1 (cA K "Book") "turns" qaa (zju K):=by
 exists S.ok,zoi,0
 all_goals obtain ⟨a,A,b,rfl,B,h⟩:=h
 ·rfl
 refine ⟨_,(zf (zo (zT zaU rfl T.zcv PyProof.Rows.boot_list (za (zab T.zF T.zbg (pv 0)) zd)))),?_⟩
 nofun
 refine ⟨a,A.dx,_,_,rfl,B.ins,rfl,?_⟩
 nofun
 exact ⟨A.t,_,rfl,.inl (SqL.of B.turns),fun q nq=>h q nq⟩
noncomputable def cellAt (ns:List Int) (k:Nat):Int:=ns.getD k 0
def zbc (K:W.Frag):Sp:=fun vs H Q _=>∃ (p:Addr) (ns:List Int) (k:Nat),vs=[.ref p,.int k]/\SqL K H p (ns.map V.int)/\Q (.int (cellAt ns k)) H
theorem zmq:zj qaq qaq (zh zcU):=by walk_at "sp"
theorem zmO (S:Src K mg "_law_cell_at" zcU qaq) (T:Txt K mg)  : Def P w K mg base 1 "_law_cell_at" qaq (zbc K):=by
 exists S.ok,zmq,0
 all_goals obtain ⟨p,ns,k,rfl,hp,h⟩:=h
 ·rfl
 refine ⟨_,(zc (zae (zu ze3 (pv 1) (zx zaI rfl T.zdd PySem.boot_len (za (pv 0) zd)) (nomark _))
  (zf (zo (zq zB (pv 0) (pv 1) (fun _ _=>rfl))))
   zS)
  (zf (zo zb))),?_⟩
 nofun
 ·rename_i q
  rw[yab] at q
  have kl:k<ns.length:=by ac_rfl
  refine ⟨p,_,_,_,rfl,rfl,hp,zaw (by rw[yaj,yaa kl];rfl),?_⟩
  unfold cellAt at h
  rw[yad,yaa kl] at h
  exact h
 ·rename_i q
  rw[yab] at q
  unfold cellAt at h
  rw[yad,yat (by ac_rfl)] at h
  nofun
  exact h
def zc9 (K:W.Frag):Sp:=fun vs H Q _=>∃ c k,vs=[.int c,.int k]/\0<=k/\k<=20/\∀ p (ns:List Int) H',Same H H'->H p=none->H' p=some (.lst (ns.map V.int))->(ns.length:Int)=k->(∀ x∈ns,(0:Int)<=x/\x<10000000000000)->Q (.ref p) H'
theorem zaK:zj ["_law_cell", "_law_many", "_law_found", "_law_number", "_law_one", "_law_other", "_law_k"] qav (zh zef):=by walk_at "sp"
theorem zpU (S:Src K mg "_law_draws" zef qav) (T:Txt K mg)  : Def P w K mg base 1 "_law_draws" qav (zc9 K):=by
 exists S.ok,zaK,0
 all_goals obtain ⟨c,k,rfl,k0,k1,h⟩:=h
 ·rfl
 refine ⟨_,(zc (zk (i:=2) zaK.nd rfl (by walk_at "lc") (zat zd))
  (zc (zk (i:=3) zaK.nd rfl (by walk_at "lc") (zi zba (pv 0) zb))
  (zc (zk (i:=4) zaK.nd rfl (by walk_at "lc") (zi zz (zi zL (pv 0) zb) zb))
  (zc (zk (i:=5) zaK.nd rfl (by walk_at "lc") (zi zz (zi zL (pv 0) zb) zb))
  (zc (zbQ PassesOwn.never rfl (zfi rfl T.zdx (za (pv 1) zd)) (zC (i:=6) zaK.nd rfl (by walk_at "lc"))
  (zc (zk (i:=4) zaK.nd rfl (by walk_at "lc") (zi zL (zi zaj (pv 4) zb) zb))
  (zc (zk (i:=5) zaK.nd rfl (by walk_at "lc") (zi zL (zi zz (zi zaj (pv 5) (pv 5)) (pv 4)) zb))
  (zf (zae (PW.pt (zee (zu zkE (pv 0) (zbb (v:=1000000000000000000) (by decide +kernel) ⟨by decide,by decide,by decide⟩) (nomark _)) (zee (zu zaf (zi zL (pv 0) zb) zb (nomark _)) (zdv (zu zkE (pv 3) zb (nomark _))))))
  (zc (zam (zfb PySem.F.plainAttrs_list PySem.F.slot_list_append PySem.F.type_list_append za7 (pv 2) (za (zi zL (pv 3) (zbb (v:=10000000000000) (by decide +kernel) ⟨by decide,by decide,by decide⟩)) zd)))
  (zf (zk (i:=3) zaK.nd rfl (by walk_at "lc") (zi zb2 (pv 3) (zbb (v:=10000000000000) (by decide +kernel) ⟨by decide,by decide,by decide⟩)))))
  (zf (zam (zfb PySem.F.plainAttrs_list PySem.F.slot_list_append PySem.F.type_list_append za7 (pv 2) (za (zi zba (zi zL (zi zz (pv 4) (zi zaj (pv 5) zb)) zb) zb) zd)))))))))
  (zf (zo (pv 2)))))))),?_⟩
 have sz:=sizeLine_eq
 nofun
 intro p np
 have sp:=ze np (.lst [])
 nofun
 have o0:0<=c % 2147483647:=ydy _ (by decide)
 have o1:c % 2147483647<2147483647:=ydx _ (by decide)
 have p0:0<=c % 998244353:=ydy _ (by decide)
 have p1:c % 998244353<998244353:=ydx _ (by decide)
 refine zjS (fun i σ H'=>L2.Ee5 fun (ns:List Int) (a b e:Int) (z:Option V)=>L2.Aa5 ((Same H H'/\H' p=some (.lst (ns.map V.int)))) (ns.length=i) ((∀ x∈ns,(0:Int)<=x/\x<10000000000000)) ((0<=a/\a<4294967296/\0<=b/\b<4294967296)) (σ=[some (.int c),some (.int k),some (.ref p),some (.int e),some (.int a),some (.int b),z]))
  ⟨[],_,_,_,_,⟨sp,zg⟩,rfl,fun x hx=>(by cases hx),⟨by ac_rfl,by ac_rfl,by ac_rfl,by ac_rfl⟩,rfl⟩ ?_ ?_
 ·rintro i σ H' hi ⟨ns,a,b,e,z,⟨sH,eP⟩,nl,nn,⟨a0,a1,b0,b1⟩,rfl⟩
  have ab:=ydy (a*48271) (show (2147483647:Int)≠0 by decide)
  have ab1:=ydx (a*48271) (show (0:Int)<2147483647 by decide)
  have bb:=ydy (b*b+a*48271 % 2147483647) (show (998244353:Int)≠0 by decide)
  have bb1:=ydx (b*b+a*48271 % 2147483647) (show (0:Int)<998244353 by decide)
  have snoc:∀ y:Int,(0<=y/\y<10000000000000)->∀ x∈ns++[y],(0:Int)<=x/\x<10000000000000:=fun y hy x hx=>by
   rcases yaf.mp hx with hx | hx
   ·exact nn x hx
   ·obtain rfl:x=y:=by simpa using hx
    exact hy
  have eP':∀ y:Int,(upd H' p (.lst (ns.map V.int++[.int y]))) p=some (.lst ((ns++[y]).map V.int)):=fun y=>by rw[yau];exact zg
  have small:∀ z:Int,(0:Int)<=z % 2147483647 / 7/\z % 2147483647 / 7<10000000000000:=fun z=>by
   have:=ydy z (show (2147483647:Int)≠0 by decide)
   have:=ydx z (show (0:Int)<2147483647 by decide)
   ac_rfl
  have i20:i<20:=by ac_rfl
  nofun
  ·refine ⟨.inl ⟨rfl,_,SqL.of eP⟩,?_⟩
   nofun
   refine ⟨p,_,_,rfl,rfl,eP,by rw[yab];ac_rfl,?_⟩
   nofun
   exact ⟨ns++[_],_,_,_,_,⟨zN sH np,eP' _⟩,by rw[yai,nl];rfl,snoc _ ⟨ydy _ (by decide),ydx _ (by decide)⟩,⟨ab,by ac_rfl,bb,by ac_rfl⟩,rfl⟩
  all_goals
   refine ⟨.inl ⟨rfl,_,SqL.of eP⟩,?_⟩
   nofun
   refine ⟨p,_,_,rfl,rfl,eP,by rw[yab];ac_rfl,?_⟩
   exact ⟨ns++[_],_,_,_,_,⟨zN sH np,eP' _⟩,by rw[yai,nl];rfl,snoc _ (small _),⟨ab,by ac_rfl,bb,by ac_rfl⟩,rfl⟩
 ·rintro σ H' ⟨ns,a,b,e,z,⟨sH,eP⟩,nl,nn,_,rfl⟩
  nofun
  exact h p ns H' sH np eP (by ac_rfl) nn
theorem ztb {ns:List Int} (h:ns.length=8):∃ a b c d e f g i,ns=[a,b,c,d,e,f,g,i]:=by
 match ns,h with
 | [a,b,c,d,e,f,g,i],_=>exact ⟨a,b,c,d,e,f,g,i,rfl⟩
def zwS (k:Ek) (d x:Int):Prop:=zwf k d x/\(k=.still->x<=d+40)
def zjr (K:W.Frag):Sp:=fun vs H Q _=>L2.Ee4 fun (k:Ek) d p (ns:List Int)=>L2.Aa7 (vs=[.str k.word,.int d,.ref p]) (SqL K H p (ns.map V.int)) (ns.length=8) ((∀ x∈ns,(0:Int)<=x/\x<10000000000000)) ((0<=d/\d<=999999)) (k≠.base) (∀ x,zwS k d x->Q (.int x) H)
theorem zfR:zj ["_law_word", "_law_day", "_law_xs", "_law_value_here"] qbg (zh zd2):=by walk_at "sp"
theorem zpW (S:Src K mg "_law_value" zd2 qbg) (T:Txt K mg)  : Def P w K mg base 1 "_law_value" qbg (zjr K):=by
 exists S.okF,zfR,0
 all_goals obtain ⟨k,d,p,ns,rfl,hp,nl,nn,⟨d0,d1⟩,hk,h⟩:=h
 ·rfl
 refine ⟨_,(zc (zk (i:=3) zfR.nd rfl (by walk_at "lc") (zi zz zb (zi zL (zq zB (pv 2) zb (fun _ _=>rfl)) (zq zB (zat (za zb (za zb (za (zbb (v:=1000000000) (by decide +kernel) ⟨by decide,by decide,by decide⟩) zd)))) (zi zL (zq zB (pv 2) zb (fun _ _=>rfl)) zb) (fun _ _=>rfl)))))
  (zc (zjX (zae (zu zaf (zi zL (zi zba (zq zB (pv 2) zb (fun _ _=>rfl)) zb) zb) zb (nomark _))
  (zf (zk (i:=3) zfR.nd rfl (by walk_at "lc") (zi zz zb (zi zL (zi zaj (zq zB (pv 2) zb (fun _ _=>rfl)) (zq zB (pv 2) zb (fun _ _=>rfl))) (zbb (v:=1000000000000) (by decide +kernel) ⟨by decide,by decide,by decide⟩)))))
   zS))
  (zc (zae (zu zaf (pv 0) zy (nomark _))
  (zf (zo (zq zB (zat (za (pv 3) (za (pv 3) (za (zi zak zb (pv 3)) (za zb zd))))) (zi zL (zq zB (pv 2) zb (fun _ _=>rfl)) zb) (fun _ _=>rfl))))
   zS)
  (zc (zae (zu zhm (pv 0) (zap (za zy (za zy zd))) (by with_unfolding_all rfl))
  (zf (zo (zq zB (zat (za zb (za (zi zL (zq zB (pv 2) zb (fun _ _=>rfl)) zb) (za (zi zL (zq zB (pv 2) zb (fun _ _=>rfl)) zb) (za (zi zL (zq zB (pv 2) zb (fun _ _=>rfl)) (zi zz (zbb (v:=1000000) (by decide +kernel) ⟨by decide,by decide,by decide⟩) zb)) zd))))) (zi zL (zq zB (pv 2) zb (fun _ _=>rfl)) zb) (fun _ _=>rfl))))
   zS)
  (zc (zae (zu zaf (pv 0) zy (nomark _))
  (zf (zo (zx (za8 rfl) rfl T.zcM PyProof.Rows.boot_min (za (zbb (v:=1000000) (by decide +kernel) ⟨by decide,by decide,by decide⟩) (za (zi zz (zi zz (pv 1) zb) (zi zL (zq zB (pv 2) zb (fun _ _=>rfl)) (zq zB (zat (za zb (za zb zd))) (zi zL (zq zB (pv 2) zb (fun _ _=>rfl)) zb) (fun _ _=>rfl)))) zd)))))
   zS)
  (zf (zo (pv 3)))))))),?_⟩
 have sz:=sizeLine_eq
 obtain ⟨n0,n1,n2,n3,n4,n5,n6,n7,rfl⟩:=ztb nl
 have p3:=nn n3 (by simp)
 have p4:=nn n4 (by simp)
 have p5:=nn n5 (by simp)
 have p6:=nn n6 (by simp)
 nofun
 refine ⟨p,_,_,_,rfl,rfl,hp,rfl,?_⟩
 nofun
 intro l1 m1
 have s1:=ze m1 (.lst [.int 9,.int 5000,.int 1000000000])
 have hp1:=s1.seq hp
 have z1:SqL K (upd H l1 (.lst [.int 9,.int 5000,.int 1000000000])) l1 [.int 9,.int 5000,.int 1000000000]:=SqL.of zg
 generalize upd H l1 (.lst [.int 9,.int 5000,.int 1000000000])=H1 at s1 hp1 z1 ⊢
 have a40:=ydy n4 (show (3:Int)≠0 by decide)
 have a41:=ydx n4 (show (0:Int)<3 by decide)
 nofun
 refine ⟨p,_,_,_,rfl,rfl,hp1,rfl,?_⟩
 nofun
 obtain ⟨m,am,hm⟩:=zoV (a:=9) (b:=5000) (c:=1000000000) a40 a41
 refine ⟨l1,_,_,_,rfl,rfl,z1,am,?_⟩
 have mp:0<m:=by ac_rfl
 have b0:=ydy n3 (show m≠0 by ac_rfl)
 have b1:=ydx n3 mp
 nofun
 have t0:∀ z:Int,1<=1+z % 1000000000000/\1+z % 1000000000000<=1000000000000:=fun z=>by
  have:=ydy z (show (1000000000000:Int)≠0 by decide)
  have:=ydx z (show (0:Int)<1000000000000 by decide)
  ac_rfl
 refine ⟨fun σ' H'=>∃ w:Int,(1<=w/\w<=1000000000000)/\H'=H1/\σ'=[some (.str k.word),some (.int d),some (.ref p),some (.int w)],?_,?_⟩
 ·nofun
  refine ⟨p,_,_,_,rfl,rfl,hp1,rfl,?_⟩
  nofun
  ·refine ⟨p,_,_,_,rfl,rfl,hp1,rfl,?_⟩
   nofun
   refine ⟨p,_,_,_,rfl,rfl,hp1,rfl,?_⟩
   nofun
   exact ⟨_,t0 _,rfl,rfl⟩
  ·exact ⟨_,⟨by ac_rfl,by ac_rfl⟩,rfl,rfl⟩
 rintro σ' H' ⟨w,⟨w0,w1⟩,rfl,rfl⟩
 cases k
 all_goals first | exact absurd rfl hk | skip
 all_goals dsimp only [Ek.word]
 all_goals nofun
 case out =>
  intro t nt
  have st:=ze nt (.tup [.str "rate", .str "late"])
  nofun
  refine ⟨t,_,rfl,.inr (SqT.of zg),rfl,rfl,_,rfl,?_⟩
  nofun
  exact ⟨s1.trans st,h _ ⟨⟨w0,w1⟩,fun z=>by cases z⟩⟩
 case pay =>
  intro t nt
  have st:=ze nt (.tup [.str "rate", .str "late"])
  nofun
  refine ⟨t,_,rfl,.inr (SqT.of zg),rfl,rfl,_,rfl,?_⟩
  nofun
  exact ⟨s1.trans st,h _ ⟨⟨w0,w1⟩,fun z=>by cases z⟩⟩
 case due =>
  intro t nt
  have st:=ze nt (.tup [.str "rate", .str "late"])
  nofun
  refine ⟨t,_,rfl,.inr (SqT.of zg),rfl,rfl,_,rfl,?_⟩
  nofun
  exact ⟨s1.trans st,h _ ⟨⟨w0,w1⟩,fun z=>by cases z⟩⟩
 case turn =>
  intro t nt
  have st:=ze nt (.tup [.str "rate", .str "late"])
  nofun
  refine ⟨t,_,rfl,.inr (SqT.of zg),rfl,rfl,_,rfl,?_⟩
  nofun
  exact ⟨s1.trans st,h _ ⟨trivial,fun z=>by cases z⟩⟩
 case fee =>
  intro l2 n2
  have s2:=ze n2 (.lst [.int w,.int w,.int (0-w),.int 0])
  have hp2:=s2.seq hp1
  have z2:SqL K (upd H' l2 (.lst [.int w,.int w,.int (0-w),.int 0])) l2 [.int w,.int w,.int (0-w),.int 0]:=SqL.of zg
  generalize upd H' l2 (.lst [.int w,.int w,.int (0-w),.int 0])=H2 at s2 hp2 z2 ⊢
  have a0:=ydy n6 (show (4:Int)≠0 by decide)
  have a1:=ydx n6 (show (0:Int)<4 by decide)
  nofun
  refine ⟨p,_,_,_,rfl,rfl,hp2,rfl,?_⟩
  nofun
  obtain ⟨v,hv,hm⟩:=ziA (xs:=[.int w,.int w,.int (0-w),.int 0]) a0 (by simpa using a1)
  obtain ⟨y,rfl,y0,y1⟩:=(zay ⟨_,rfl,by ac_rfl,by ac_rfl⟩ (zay ⟨_,rfl,by ac_rfl,by ac_rfl⟩ (zay ⟨_,rfl,by ac_rfl,by ac_rfl⟩ (zay ⟨_,rfl,by ac_rfl,by ac_rfl⟩ zph))):∀ v∈([.int w,.int w,.int (0-w),.int 0]:List V),∃ w:Int,v=.int w /\ -1000000000000<=w/\w<=1000000000000) v hm
  refine ⟨l2,_,_,_,rfl,rfl,z2,hv,?_⟩
  exact ⟨s1.trans s2,h _ ⟨⟨y0,y1⟩,fun z=>by cases z⟩⟩
 case rate =>
  intro t nt
  have st:=ze nt (.tup [.str "rate", .str "late"])
  nofun
  refine ⟨t,_,rfl,.inr (SqT.of zg),rfl,rfl,_,rfl,?_⟩
  have hpt:=st.seq hp1
  generalize upd H' t (.tup [.str "rate", .str "late"])=H3 at st hpt ⊢
  nofun
  refine ⟨p,_,_,_,rfl,rfl,hpt,rfl,?_⟩
  nofun
  refine ⟨p,_,_,_,rfl,rfl,hpt,rfl,?_⟩
  nofun
  refine ⟨p,_,_,_,rfl,rfl,hpt,rfl,?_⟩
  nofun
  intro l2 n2
  have s2:=ze n2 (.lst [.int 0,.int (n3 % 100),.int (n3 % 2000),.int (n3 % 1000001)])
  have hp2:=s2.seq hpt
  have z2:SqL K (upd H3 l2 (.lst [.int 0,.int (n3 % 100),.int (n3 % 2000),.int (n3 % 1000001)])) l2 [.int 0,.int (n3 % 100),.int (n3 % 2000),.int (n3 % 1000001)]:=SqL.of zg
  have a0:=ydy n4 (show (4:Int)≠0 by decide)
  have a1:=ydx n4 (show (0:Int)<4 by decide)
  nofun
  refine ⟨p,_,_,_,rfl,rfl,hp2,rfl,?_⟩
  nofun
  obtain ⟨v,hv,hm⟩:=ziA (xs:=[.int 0,.int (n3 % 100),.int (n3 % 2000),.int (n3 % 1000001)]) a0 (by simpa using a1)
  obtain ⟨y,rfl,y0,y1⟩:=(zay ⟨_,rfl,by ac_rfl,by ac_rfl⟩ (zay ⟨_,rfl,by ac_rfl,by ac_rfl⟩ (zay ⟨_,rfl,by ac_rfl,by ac_rfl⟩ (zay ⟨_,rfl,by ac_rfl,by ac_rfl⟩ zph))):∀ v∈([.int 0,.int (n3 % 100),.int (n3 % 2000),.int (n3 % 1000001)]:List V),∃ w:Int,v=.int w/\0<=w/\w<=1000000) v hm
  refine ⟨l2,_,_,_,rfl,rfl,z2,hv,?_⟩
  exact ⟨s1.trans (st.trans s2),h _ ⟨⟨y0,y1⟩,fun z=>by cases z⟩⟩
 case late =>
  intro t nt
  have st:=ze nt (.tup [.str "rate", .str "late"])
  nofun
  refine ⟨t,_,rfl,.inr (SqT.of zg),rfl,rfl,_,rfl,?_⟩
  have hpt:=st.seq hp1
  generalize upd H' t (.tup [.str "rate", .str "late"])=H3 at st hpt ⊢
  nofun
  refine ⟨p,_,_,_,rfl,rfl,hpt,rfl,?_⟩
  nofun
  refine ⟨p,_,_,_,rfl,rfl,hpt,rfl,?_⟩
  nofun
  refine ⟨p,_,_,_,rfl,rfl,hpt,rfl,?_⟩
  nofun
  intro l2 n2
  have s2:=ze n2 (.lst [.int 0,.int (n3 % 100),.int (n3 % 2000),.int (n3 % 1000001)])
  have hp2:=s2.seq hpt
  have z2:SqL K (upd H3 l2 (.lst [.int 0,.int (n3 % 100),.int (n3 % 2000),.int (n3 % 1000001)])) l2 [.int 0,.int (n3 % 100),.int (n3 % 2000),.int (n3 % 1000001)]:=SqL.of zg
  have a0:=ydy n4 (show (4:Int)≠0 by decide)
  have a1:=ydx n4 (show (0:Int)<4 by decide)
  nofun
  refine ⟨p,_,_,_,rfl,rfl,hp2,rfl,?_⟩
  nofun
  obtain ⟨v,hv,hm⟩:=ziA (xs:=[.int 0,.int (n3 % 100),.int (n3 % 2000),.int (n3 % 1000001)]) a0 (by simpa using a1)
  obtain ⟨y,rfl,y0,y1⟩:=(zay ⟨_,rfl,by ac_rfl,by ac_rfl⟩ (zay ⟨_,rfl,by ac_rfl,by ac_rfl⟩ (zay ⟨_,rfl,by ac_rfl,by ac_rfl⟩ (zay ⟨_,rfl,by ac_rfl,by ac_rfl⟩ zph))):∀ v∈([.int 0,.int (n3 % 100),.int (n3 % 2000),.int (n3 % 1000001)]:List V),∃ w:Int,v=.int w/\0<=w/\w<=1000000) v hm
  refine ⟨l2,_,_,_,rfl,rfl,z2,hv,?_⟩
  exact ⟨s1.trans (st.trans s2),h _ ⟨⟨y0,y1⟩,fun z=>by cases z⟩⟩
 case still =>
  intro t nt
  have st:=ze nt (.tup [.str "rate", .str "late"])
  nofun
  refine ⟨t,_,rfl,.inr (SqT.of zg),rfl,rfl,_,rfl,?_⟩
  have hpt:=st.seq hp1
  generalize upd H' t (.tup [.str "rate", .str "late"])=H3 at st hpt ⊢
  nofun
  refine ⟨p,_,_,_,rfl,rfl,hpt,rfl,?_⟩
  nofun
  intro l2 n2
  have s2:=ze n2 (.lst [.int 3,.int 40])
  have hp2:=s2.seq hpt
  have z2:SqL K (upd H3 l2 (.lst [.int 3,.int 40])) l2 [.int 3,.int 40]:=SqL.of zg
  generalize upd H3 l2 (.lst [.int 3,.int 40])=H2 at s2 hp2 z2 ⊢
  have a0:=ydy n4 (show (2:Int)≠0 by decide)
  have a1:=ydx n4 (show (0:Int)<2 by decide)
  nofun
  refine ⟨p,_,_,_,rfl,rfl,hp2,rfl,?_⟩
  nofun
  obtain ⟨m2,am2,hm2⟩:=zwT (a:=3) (b:=40) a0 a1
  refine ⟨l2,_,_,_,rfl,rfl,z2,am2,?_⟩
  have c0:=ydy n3 (show m2≠0 by ac_rfl)
  have c1:=ydx n3 (show 0<m2 by ac_rfl)
  nofun
  refine ⟨s1.trans (st.trans s2),h _ ⟨⟨?_,?_⟩,fun _=>?_⟩⟩ <;> split <;> ac_rfl
def zdG (K:W.Frag):Sp:=fun vs H Q _=>∃ y,vs=[.int y]/\Q (.bl (Cal.leap y)) H
theorem zoI:zj qas qas (zh zeV):=by walk_at "sp"
theorem zqE (S:Src K mg "_law_leap" zeV qas) (T:Txt K mg)  : Def P w K mg base 1 "_law_leap" qas (zdG K):=by
 exists S.ok,zoI,0
 all_goals obtain ⟨y,rfl,h⟩:=h
 ·rfl
 refine ⟨_,(zf (zo (zl7 (zdz zaf (zi zL (pv 0) zb) zb (nomark _)) (zis (zvp (zdz zkE (zi zL (pv 0) zb) zb (nomark _)) (zis (zdz zaf (zi zL (pv 0) zb) zb (nomark _)))))))),?_⟩
 nofun
 ·exact qb h (by have:¬ y % 100=0:=by ac_rfl
                 simp[Cal.leap,dI, *])
 ·exact qb h (by have:y % 100=0:=by ac_rfl
                 simp[Cal.leap,dI, *])
 ·exact qb h (by simp[Cal.leap,dI, *])
theorem znK:∀ {xs ys:List Int},xs.Nodup->(∀ x∈xs,x∈ys)->xs.length<=ys.length
 | [],_,_,_=>ydb _
 | x::xs,ys,nd,h=>by
  have hx:=h x yas
  obtain ⟨nx,nd'⟩:=ybj.mp nd
  have:=znK (ys:=ys.erase x) nd' fun z hz=>(ycm (fun (q:z=x)=>nx (by rw[<-q];exact hz))).mpr (h z (yam _ hz))
  rw[ybx hx] at this
  have:=ybp hx
  rw[ybc]
  omega
theorem zs8 {acc l:List (Int × Int)} (t:Sby.Tot acc l):acc.length<=l.length:=by
 have:=znK t.nd fun k hk=>(t.mem k).mp hk
 rw[yab,yab] at this
 exact this
def zkj (P:Program) (w:World) (K:W.Frag):Sp:=fun vs H Q _=>L2.Ee4 fun q rs (es:List Er) ww=>L2.Aa5 (vs=[.ref q,.str ww]) (SqL K H q rs) (RL3 H rs es) (es.length<=100) (∀ d acc (ep:Nat) H',H d=none->Same H H'->H' d=some (zcq P w d acc ep)->Sby.Tot acc (prs ww es)->Q (.ref d) H')
theorem zcs:zj ["_law_rows", "_law_word", "_law_sums_here", "_law_other", "_law_day", "_law_value_here"] qbh (zh zeN):=by walk_at "sp"
theorem zqI (S:Src K mg "_law_sums" zeN qbh) (T:Txt K mg)  : Def P w K mg base 1 "_law_sums" qbh (zkj P w K):=by
 exists S.ok,zcs,0
 all_goals obtain ⟨q,rs,es,ww,rfl,hq,hR,hl,h⟩:=h
 ·rfl
 refine ⟨_,(zc (zk (i:=2) zcs.nd rfl (by walk_at "lc") zuT)
  (zc (zbQ PassesOwn.never rfl (zG (pv 0)) (zch rfl (zH (zC (i:=3) zcs.nd rfl (by walk_at "lc")) (zH (zC (i:=4) zcs.nd rfl (by walk_at "lc")) (zH (zC (i:=5) zcs.nd rfl (by walk_at "lc")) zbz))))
  (zf (zae (zu zaf (pv 3) (pv 1) (nomark _))
  (zf (zv3 (pv 2) (pv 4) (zi zz (zkN (pv 2) (pv 4) zb) (pv 5))))
   zS)))
  (zf (zo (pv 2))))),?_⟩
 have sz:=sizeLine_eq
 have xl:=hR.length
 nofun
 intro d ep0 nd
 have sd:=ze nd (zcq P w d [] ep0)
 have ed:=zD (zcq P w d [] ep0) nd
 nofun
 refine ⟨⟨_,sd.seq hq⟩,zbH (xs:=rs) (fun i σ H'=>L2.Ee5 fun (acc:List (Int × Int)) (ep:Nat) (z1 z2 z3:Option V)=>L2.Aa3 ((Same H H'/\H' d=some (zcq P w d acc ep))) (Sby.Tot acc (prs ww (es.take i))) (σ=[some (.ref q),some (.str ww),some (.ref d),z1,z2,z3]))
  ⟨[],ep0,_,_,_,⟨sd,ed⟩,Sby.Tot.nil,rfl⟩ ?_ ?_ ?_⟩
 ·rintro i σ H' _ ⟨acc,ep,z1,z2,z3,⟨sH,_⟩,_⟩
  exact sH.seq hq
 ·rintro i x σ H' hx ⟨acc,ep,z1,z2,z3,⟨sH,eD⟩,tt,rfl⟩
  obtain ⟨e,he,t,rfl,ht⟩:=(hR.same sH).get hx
  have tk:es.take (i+1)=es.take i++[e]:=by rw[ybb,he];rfl
  have il:i<es.length:=(yac.mp he).1
  have al:=zs8 tt
  have pl:=ziC (w:=ww) (es:=es.take i)
  rw[ybe] at pl
  refine ⟨t,_,rfl,SqT.of ht,rfl,?_⟩
  nofun
  ·rename_i c
   have isS:isW ww e=true:=decide_eq_true c
   have pr:prs ww (es.take (i+1))=prs ww (es.take i)++[e.2]:=by
    unfold prs
    rw[tk,ybd,yau,yan isS]
    rfl
   rw[pr]
   refine ⟨d,acc,ep,rfl,eD,?_⟩
   nofun
   refine ⟨eD,?_⟩
   rw[tt.look]
   nofun
   refine ⟨d,acc,e.2.1,_,ep,rfl,rfl,rfl,eD,by ac_rfl,fun ep'=>?_⟩
   exact ⟨_,ep',_,_,_,⟨zN sH nd,zg⟩,tt.step e.2.1 e.2.2,rfl⟩
  ·rename_i c
   have isS:¬ isW ww e=true:=fun z=>c (of_decide_eq_true z)
   have pr:prs ww (es.take (i+1))=prs ww (es.take i):=by
    unfold prs
    rw[tk,ybd,yau,yap isS]
    simp
   rw[pr]
   exact ⟨acc,ep,_,_,_,⟨sH,eD⟩,tt,rfl⟩
 ·rintro σ H' ⟨acc,ep,z1,z2,z3,⟨sH,eD⟩,tt,rfl⟩
  rw[xl,yaz (ycz _)] at tt
  nofun
  exact h d acc ep H' nd sH eD tt
def zjD (K:W.Frag):Sp:=fun vs H Q _=>L2.Ee5 fun t u m n (q:Q4)=>L2.Aa4 (vs=[.int u,.int m,.int n,.ref t]) ((0<u/\u<1152921504606846976)) (SqT K H t [.int q.1,.int q.2.1,.int q.2.2.1,.int q.2.2.2]) (∀ a,H a=none->Q (.ref a) (upd H a (.tup [.int (doD u q (m,n)).1,.int (doD u q (m,n)).2])))
theorem zar:zj ["_law_unit_here", "_law_principal", "_law_units", "_law_deeds_here", "_law_lent", "_law_fees", "_law_turned", "_law_paid"] qbi (zh zdH):=by walk_at "sp"
theorem zoH (S:Src K mg "_law_deeds" zdH qbi) (T:Txt K mg)  : Def P w K mg base 1 "_law_deeds" qbi (zjD K):=by
 exists S.ok,zar,0
 all_goals obtain ⟨t,u,m,n,q,rfl,⟨u0,u1⟩,ht,h⟩:=h
 ·rfl
 refine ⟨_,(zc (zfl (pv 3) (zch rfl (zH (zC (i:=4) zar.nd rfl (by walk_at "lc")) (zH (zC (i:=5) zar.nd rfl (by walk_at "lc")) (zH (zC (i:=6) zar.nd rfl (by walk_at "lc")) (zH (zC (i:=7) zar.nd rfl (by walk_at "lc")) zbz))))))
  (zc (zk (i:=2) zar.nd rfl (by walk_at "lc") (zi zz (pv 2) (zi zaj (pv 0) (pv 4))))
  (zc (zk (i:=1) zar.nd rfl (by walk_at "lc") (zx (za8 rfl) rfl T.zcM PyProof.Rows.boot_min (za (zi zz (pv 1) (pv 4)) (za (zx (zbm rfl) rfl T.zcp PyProof.Rows.boot_max (za zb (za (zi zb2 (pv 2) (pv 0)) zd))) zd))))
  (zc (zk (i:=2) zar.nd rfl (by walk_at "lc") (zi zz (pv 2) (zi zaj (pv 0) (pv 5))))
  (zc (zk (i:=1) zar.nd rfl (by walk_at "lc") (zx (za8 rfl) rfl T.zcM PyProof.Rows.boot_min (za (pv 1) (za (zx (zbm rfl) rfl T.zcp PyProof.Rows.boot_max (za zb (za (zi zb2 (pv 2) (pv 0)) zd))) zd))))
  (zc (zae (zu zaf (pv 6) zb (nomark _))
  (zf (zk (i:=1) zar.nd rfl (by walk_at "lc") (zx (zbm rfl) rfl T.zcp PyProof.Rows.boot_max (za zb (za (zi zb2 (pv 2) (pv 0)) zd)))))
   zS)
  (zc (zk (i:=2) zar.nd rfl (by walk_at "lc") (zi zak (pv 2) (zi zaj (pv 0) (pv 7))))
  (zf (zo (zap (za (zx (za8 rfl) rfl T.zcM PyProof.Rows.boot_min (za (pv 1) (za (zx (zbm rfl) rfl T.zcp PyProof.Rows.boot_max (za zb (za (zi zb2 (pv 2) (pv 0)) zd))) zd))) (za (pv 2) zd)))))))))))),?_⟩
 obtain ⟨x,f,w,y⟩:=q
 change SqT K H t [.int x,.int f,.int w,.int y] at ht
 unfold doD at h
 dsimp only at h
 nofun
 refine ⟨t,_,rfl,ht,rfl,?_⟩
 nofun
 ·rename_i c
  rw[if_pos c] at h
  unfold Dbt.step at h
  dsimp only at h
  rw[Int.mul_neg,<-Int.sub_eq_add_neg] at h
  intro a na
  exact h a na
 ·rename_i c
  rw[if_neg c] at h
  unfold Dbt.step at h
  dsimp only at h
  rw[Int.mul_neg,<-Int.sub_eq_add_neg] at h
  intro a na
  exact h a na
def zeq (K:W.Frag):Sp:=fun vs H Q _=>L2.Ee4 fun q rs (es:List Er) d=>L2.Aa5 (vs=[.ref q,.int d]) (H q=some (.lst rs)) (RL3 H rs es) (es.length<=61) (Q (.bl (Spans.isIn (prs "still" es) d)) H)
theorem zcR:zj ["_law_rows", "_law_day", "_law_word", "_law_first", "_law_value_here"] qaf (zh zc3):=by walk_at "sp"
theorem zn3 (S:Src K mg "_law_stands" zc3 qaf) (T:Txt K mg)  : Def P w K mg base 1 "_law_stands" qaf (zeq K):=by
 exists S.okF,zcR,0
 all_goals obtain ⟨q,rs,es,d,rfl,hq,hR,hl,h⟩:=h
 ·rfl
 refine ⟨_,(zc (zbQ PassesOwn.never rfl (zG (pv 0)) (zch rfl (zH (zC (i:=2) zcR.nd rfl (by walk_at "lc")) (zH (zC (i:=3) zcR.nd rfl (by walk_at "lc")) (zH (zC (i:=4) zcR.nd rfl (by walk_at "lc")) zbz))))
  (zf (zae (PW.pt (zee (zu zaf (pv 2) zy (nomark _)) (zdv (zps zc4 ze3 (pv 3) (pv 1) (pv 4)))))
  (zf (zo zmv))
   zS)))
  (zf (zo zmv))),?_⟩
 have sz:=sizeLine_eq
 have xl:=hR.length
 nofun
 have iS:∀ (j:Nat) (e:Er),es[j]?=some e->Spans.isIn (prs "still" (es.take (j+1))) d=(Spans.isIn (prs "still" (es.take j)) d || (isW "still" e && (decide (e.2.1<=d) && decide (d<e.2.2)))):=fun j e he=>by
  rw[show es.take (j+1)=es.take j++[e] by rw[ybb,he];rfl,zvH]
  by_cases c:isW "still" e=true
  ·rw[if_pos c,zsM,c,Bool.true_and]
  ·rw[if_neg c,yci,Bool.eq_false_iff.mpr c,Bool.false_and,Bool.or_false]
 refine ⟨⟨_,SqL.of hq⟩,zbH (xs:=rs) (fun i σ H'=>H=H'/\∃ y1 y2 y3:Option V,Spans.isIn (prs "still" (es.take i)) d=false/\σ=[some (.ref q),some (.int d),y1,y2,y3])
  ⟨rfl,_,_,_,rfl,rfl⟩ ?_ ?_ ?_⟩
 ·rintro i σ H' _ ⟨rfl,_⟩
  exact SqL.of hq
 ·rintro i x σ H' hx ⟨rfl,y1,y2,y3,no,rfl⟩
  obtain ⟨e,he,t,rfl,ht⟩:=hR.get hx
  have st:=iS i e he
  rw[no,Bool.false_or] at st
  nofun
  refine ⟨t,_,rfl,SqT.of ht,rfl,?_⟩
  nofun
  ·rename_i c1 c2 c3
   have y:Spans.isIn (prs "still" es) d=true:=by
    rw[show isW "still" e=true from decide_eq_true c1,decide_eq_true c2,decide_eq_true c3] at st
    have st:Spans.isIn (prs "still" (es.take (i+1))) d=true:=st
    rw[Spans.zaC] at st ⊢
    obtain ⟨s,hs,h1⟩:=st
    refine ⟨s,?_,h1⟩
    obtain ⟨e',he',rfl⟩:=yah.mp hs
    obtain ⟨f1,f2⟩:=yal.mp he'
    exact yay (yal.mpr ⟨List.mem_of_mem_take f1,f2⟩)
   rw[y] at h
   exact ⟨Same.refl _,h⟩
  ·rename_i c1 c2 c3
   rw[decide_eq_false c3,Bool.and_false,Bool.and_false] at st
   exact ⟨_,_,_,st,rfl⟩
  ·rename_i c1 c2
   rw[decide_eq_false c2,Bool.false_and,Bool.and_false] at st
   exact ⟨_,_,_,st,rfl⟩
  ·rename_i c1
   rw[show isW "still" e=false from decide_eq_false c1,Bool.false_and] at st
   exact ⟨_,_,_,st,rfl⟩
 ·rintro σ H' ⟨rfl,y1,y2,y3,no,rfl⟩
  rw[xl,yaz (ycz _)] at no
  rw[no] at h
  nofun
  exact ⟨Same.refl _,h⟩
def zl1 (K:W.Frag):Sp:=fun vs H Q _=>L2.Ee5 fun q rs (es:List Er) w d=>L2.Aa6 (vs=[.ref q,.str w,.int d]) (H q=some (.lst rs)) (RL3 H rs es) (es.length<=61) ((∀ e∈es,0<=e.2.1)) (Q (.int (Sums.valOf (prs w es) d)) H)
theorem zmd:zj ["_law_rows", "_law_word", "_law_day", "_law_found"] qbj (zh zhv):=by walk_at "sp"
theorem zt1 (S:Src K mg "_law_at" zhv qbj) (T:Txt K mg)  : Def P w K mg base 1 "_law_at" qbj (zl1 K):=by
 exists S.okF,zmd,0
 all_goals obtain ⟨q,rs,es,w,d,rfl,hq,hR,hl,h0,h⟩:=h
 ·rfl
 refine ⟨_,(zc (zj1 (i:=3) zmd.nd rfl rfl (ix:=[2,0,1]) ⟨rfl,by decide +kernel,rfl,by decide +kernel,rfl,(show (["_law_k", "_law_day", "_law_rows", "_law_word"]:List Str).Nodup by decide +kernel),by walk_at "cap", by walk_at "sub", by walk_at "has"⟩ (zfi rfl T.zdx (za (zx zaI rfl T.zdd PySem.boot_len (za (pv 0) zd)) zd)) (fun b=>(PW.pt (zee (zu zaf (zq (zaz K) (zq (zeG K) (pv 2) (pv 0) (fun _ _=>rfl)) zb (fun _ _=>rfl)) (pv 3) (nomark _)) (zdv (zu zc4 (zq (zaz K) (zq (zeG K) (pv 2) (pv 0) (fun _ _=>rfl)) zb (fun _ _=>rfl)) (pv 1) (nomark _)))))) (fun b=>(zap (za (zq (zaz K) (zq (zeG K) (pv 2) (pv 0) (fun _ _=>rfl)) zb (fun _ _=>rfl)) (za (pv 0) zd)))))
  (zc (zae (zu (zw7 hr.units) (pv 3) (zat zd) (nomark _))
  (zf (zo zb))
   zS)
  (zf (zo (zq zah (zq zB (pv 0) (zq zah (zx (ztC rfl hr.zrv) rfl T.zcp PyProof.Rows.boot_max (za (pv 3) zd)) zb (fun _ _=>rfl)) (fun _ _=>rfl)) zb (fun _ _=>rfl)))))),?_⟩
 have sz:=sizeLine_eq
 have xl:=hR.length
 nofun
 refine ⟨q,rs,rfl,.inl (SqL.of hq),?_⟩
 refine ⟨_,rfl,by ac_rfl,by ac_rfl,fun l nl=>?_⟩
 have at_:∀ i:Nat,i<es.length->∃ e t,es[i]?=some e/\rs[i]?=some (.ref t)/\H t=some (.tup (zb7 e.1 e.2.1 e.2.2)):=fun i hi=>by
  obtain ⟨v,hv⟩:∃ v,rs[i]?=some v:=⟨_,yaa (by ac_rfl)⟩
  obtain ⟨e,he,t,rfl,ht⟩:=hR.get hv
  exact ⟨e,t,he,hv,ht⟩
 obtain ⟨F,hF⟩:∃ F:Nat->Bool,F=fun i=>((es[i]?).map fun e=>isW w e && decide (e.2.1<=d)).getD false:=⟨_,rfl⟩
 have fe:∀ i e,es[i]?=some e->F i=(isW w e && decide (e.2.1<=d)):=fun i e he=>by rw[hF];show ((es[i]?).map _).getD false=_;rw[he];rfl
 refine zti nl (by ac_rfl) F (fun H' v i=>∃ t e,es[i]?=some e/\v=.ref t/\H' t=some (.tup [.int e.2.1,.int i])) (fun _ _ _ _ s ⟨t,e,e0,e1,e2⟩=>⟨t,e,e0,e1,s _ _ e2⟩) (fun _ _ _ _ _ hL ⟨t,e,e0,e1,e2⟩=>⟨t,e,e0,e1,by rw[zr (zau e2 hL (by intro z;cases z))];exact e2⟩) ?_ ?_ ?_
 ·rintro i H' Q' hi sH hq'
  obtain ⟨e,t,he,hv,ht⟩:=at_ i (by ac_rfl)
  have ht':=sH _ _ ht
  rw[fe i e he] at hq'
  nofun
  refine ⟨q,_,_,_,rfl,rfl,SqL.of (sH _ _ hq),by rw[yea];exact zaw hv,?_⟩
  nofun
  ·rename_i c1
   refine ⟨q,_,_,_,rfl,rfl,SqL.of (sH _ _ hq),by rw[yea];exact zaw hv,?_⟩
   nofun
   rw[show isW w e=true from decide_eq_true c1,Bool.true_and] at hq'
   exact hq'
  ·rename_i c1
   rw[show isW w e=false from decide_eq_false c1,Bool.false_and] at hq'
   exact hq'
 ·rintro i H' Q' hi fi sH hq'
  obtain ⟨e,t,he,hv,ht⟩:=at_ i (by ac_rfl)
  have ht':=sH _ _ ht
  nofun
  refine ⟨q,_,_,_,rfl,rfl,SqL.of (sH _ _ hq),by rw[yea];exact zaw hv,?_⟩
  nofun
  intro t2 nt2
  exact hq' _ _ (ze nt2 _) ⟨t2,e,he,rfl,by rw[zg,yea]⟩
 rintro ys H1 s1 eL hP
 obtain ⟨ps,hps⟩:∃ ps:List Nat,ps=(ybg (rs.length:Int).toNat).filter F:=⟨_,rfl⟩
 rw[<-hps] at hP
 have pin:∀ i,i∈ps↔∃ e,es[i]?=some e/\isW w e=true/\e.2.1<=d:=fun i=>by
  rw[hps,yal,List.mem_range]
  constructor
  ·rintro ⟨h1,h2⟩
   obtain ⟨e,_,he,_⟩:=at_ i (by ac_rfl)
   rw[fe i e he,Bool.and_eq_true] at h2
   exact ⟨e,he,h2.1,of_decide_eq_true h2.2⟩
  ·rintro ⟨e,he,h1,h2⟩
   have:=(yac.mp he).1
   exact ⟨by ac_rfl,by rw[fe i e he,h1,decide_eq_true h2];rfl⟩
 nofun
 intro p3 np3
 have s2:=ze np3 (.lst [])
 have e3:=zD (.lst []) np3
 have eL3:=s2 _ _ eL
 generalize upd H1 p3 (.lst [])=H3 at s2 e3 eL3 ⊢
 obtain ⟨G,hG⟩:∃ G:Nat->Int × Int,G=fun i:Nat=>(((es[i]?).map fun e:Er=>e.2.1).getD 0,(i:Int)):=⟨_,rfl⟩
 have ge:∀ i e,es[i]?=some e->G i=(e.2.1,(i:Int)):=fun i e he=>by rw[hG];show (((es[i]?).map _).getD 0,(i:Int))=_;rw[he];rfl
 have r1:zA K H1 ys (ps.map G):=zur (LL.imp (fun v i ⟨t,e,e0,e1,e2⟩=>⟨t,e1,by rw[ge i e e0];exact e2⟩) hP)
 have r3:=r1.same s2
 have yl:=hP.length
 refine ⟨_,_,.lst (SqL.of eL3) r3.rd,.lst (SqL.of e3) .nil,zra _,shaped_ints [],?_⟩
 rw[show PyData.eqv (.list ((ps.map G).map zlO)) (.list [])=decide (ps=[]) by cases ps <;> rfl]
 have s13:=s1.trans s2
 by_cases pe:ps=[]
 ·rw[decide_eq_true pe]
  nofun
  have:Sums.valOf (prs w es) d=0:=zv1 fun e he h1 h2=>by
   obtain ⟨i,hi⟩:=yav.mp he
   have:=(pin i).mpr ⟨e,hi,h1,h2⟩
   rw[pe] at this
   cases this
  rw[this] at h
  first | exact ⟨s13,h⟩ | exact h
 rw[decide_eq_false pe]
 nofun
 refine ⟨l,ys,ps.map G,rfl,SqL.of eL3,r3,by rw[yab];exact List.length_pos_iff.mpr pe,fun j t M hj hM top=>?_⟩
 rw[yaj] at hM
 obtain ⟨k,hk,rfl⟩:=Option.map_eq_some_iff.mp hM
 obtain ⟨e,he,hw,hd⟩:=(pin k).mp (yae hk)
 obtain ⟨e2,t2,he2,hv2,ht2⟩:=at_ k (yac.mp he).1
 obtain rfl:e2=e:=Option.some.inj (he2.symm.trans he)
 obtain ⟨k',hk',t',e',e0',e1',e2'⟩:=hP.get hj
 obtain rfl:k'=k:=Option.some.inj (hk'.symm.trans hk)
 obtain rfl:e'=e2:=Option.some.inj (e0'.symm.trans he)
 obtain rfl:t=t':=by injection e1'
 have et3:=s2 _ _ e2'
 have v:Sums.valOf (prs w es) d=e'.2.2:=zwG he (h0 e' (yae he)) hw hd fun i e3 h3 w3 d3=>by
  have m:=(pin i).mpr ⟨e3,h3,w3,d3⟩
  obtain ⟨n,hn⟩:=yav.mp m
  have:=top n (G i) (by rw[yaj,hn];rfl)
  rw[ge k' e' he,ge i e3 h3] at this
  have z:=of_decide_eq_false this
  dsimp only at z
  ac_rfl
 rw[v] at h
 refine ⟨t,_,_,_,rfl,rfl,SqT.of et3,rfl,?_⟩
 nofun
 refine ⟨q,_,_,_,rfl,rfl,SqL.of (s13 _ _ hq),zaw hv2,?_⟩
 nofun
 refine ⟨t2,_,_,_,rfl,rfl,SqT.of (s13 _ _ ht2),rfl,?_⟩
 nofun
 first | exact ⟨s13,h⟩ | exact h
noncomputable def sgn (e:Er):Int:=if isW "out" e=true then 1 else if isW "fee" e=true then 1 else if isW "pay" e=true then -1 else 0
theorem zsH (k:Ek):(((([((.inr "out" : Key),V.int 1),(.inr "fee", .int 1),(.inr "pay", .int (-1))]:List (Key × V)).find? fun q=>decide (q.1=.inr k.word)).map (·.2)).getD (.int 0))=.int (sgn (k,0,0)):=by
 cases k <;> rfl
theorem zvU (es:List Er) (z:Int):((es.filter fun e=>decide (e.2.1<=z)).map fun e=>sgn e*e.2.2).sum=cen es z:=by
 induction es with
 | nil=>rfl
 | cons e es ih =>
  have p:∀ w,upto (prs w (e::es)) z=(if isW w e=true then (if e.2.1<=z then e.2.2 else 0) else 0)+upto (prs w es) z:=fun w=>by
   unfold prs
   by_cases c:isW w e=true
   ·rw[yan c,if_pos c,ybi,zhw]
   ·rw[yap c,if_neg c];omega
  have h:cen (e::es) z=(if e.2.1<=z then sgn e*e.2.2 else 0)+cen es z:=by
   unfold cen
   rw[p,p,p]
   have o:sgn e=(if isW "out" e=true then 1 else 0)+(if isW "fee" e=true then 1 else 0)-(if isW "pay" e=true then 1 else 0):=by
    obtain ⟨k,d,x⟩:=e
    show sgn (k,0,0)=_
    cases k <;> rfl
   rw[o]
   obtain ⟨k,d,x⟩:=e
   by_cases c:d<=z
   ·simp only[if_pos c]
    rcases (by cases k <;> simp[isW,Ek.word] <;> decide:(isW "out" (k,d,x)=true/\isW "fee" (k,d,x)=false/\isW "pay" (k,d,x)=false)\/(isW "out" (k,d,x)=false/\isW "fee" (k,d,x)=true/\isW "pay" (k,d,x)=false)\/(isW "out" (k,d,x)=false/\isW "fee" (k,d,x)=false/\isW "pay" (k,d,x)=true)\/(isW "out" (k,d,x)=false/\isW "fee" (k,d,x)=false/\isW "pay" (k,d,x)=false)) with ⟨a,b,c⟩ | ⟨a,b,c⟩ | ⟨a,b,c⟩ | ⟨a,b,c⟩ <;> rw[a,b,c] <;> simp <;> omega
   ·simp only[if_neg c]
    simp
  rw[h,<-ih]
  by_cases c:e.2.1<=z
  ·rw[yan (by simpa using c),if_pos c,ybi,List.sum_cons]
  ·rw[yap (by simpa using c),if_neg c];omega
def ziu (K:W.Frag):Sp:=fun vs H Q _=>L2.Ee4 fun q rs (es:List Er) d=>L2.Aa5 (vs=[.ref q,.int d]) (H q=some (.lst rs)) (RL3 H rs es) (es.length<=61) (Q (.int (cen es d)) H)
theorem zim:zj ["_law_rows", "_law_day", "_law_signs"] qaf (zh zdc):=by walk_at "sp"
theorem zoh (S:Src K mg "_law_sum_to" zdc qaf) (T:Txt K mg)  : Def P w K mg base 1 "_law_sum_to" qaf (ziu K):=by
 exists S.okF,zim,0
 all_goals obtain ⟨q,rs,es,d,rfl,hq,hR,hl,h⟩:=h
 ·rfl
 refine ⟨_,(zc (zk (i:=2) zim.nd rfl (by walk_at "lc") (zxk (by decide +kernel)))
  (zf (zo (zx (zhs rfl) rfl T.zkC PyProof.Rows.boot_sum (za (zi3 (ix:=[1,2]) ⟨rfl,by decide +kernel,rfl,by decide +kernel,rfl,rfl,rfl,  (show (["_law_word", "_law_first", "_law_value_here", "_law_day", "_law_signs"]:List Str).Nodup by decide +kernel),by walk_at "cap", by walk_at "sub", by walk_at "has"⟩ (zG (pv 0)) (fun b=>(zu zc4 (pv 1) (pv 3) (nomark _))) (fun b=>(zi zaj (zvO (pv 4) (pv 0) zb) (pv 2)))) zd))))),?_⟩
 have sz:=sizeLine_eq
 have xl:=hR.length
 nofun
 intro pd npd
 have s1:=ze npd (.dK [(.inr "out", .int 1),(.inr "fee", .int 1),(.inr "pay", .int (-1))])
 have ep:=zD (.dK [(.inr "out", .int 1),(.inr "fee", .int 1),(.inr "pay", .int (-1))]) npd
 generalize upd H pd (.dK [(.inr "out", .int 1),(.inr "fee", .int 1),(.inr "pay", .int (-1))])=H1 at s1 ep ⊢
 have hq1:=s1 _ _ hq
 have hR1:=hR.same s1
 nofun
 refine ⟨⟨_,SqL.of hq1⟩,fun l nl=>?_⟩
 refine zfh (zO (SqL.of hq1)) nl (by ac_rfl) es xl.symm (fun e=>(V.str e.1.word,V.int e.2.1,V.int e.2.2)) (fun i v e hx he=>?_) (fun e=>decide (e.2.1<=d)) (fun _ v e=>v=.int (sgn e*e.2.2)) (fun _ _ _ _ _ z=>z) (fun _ _ _ _ _ _ z=>z) ?_ ?_ ?_
 ·obtain ⟨e',he',t,rfl,ht⟩:=hR1.get hx
  obtain rfl:e'=e:=Option.some.inj (he'.symm.trans he)
  exact ⟨t,rfl,ht⟩
 ·rintro e H2 Q' em s2 hq'
  nofun
  exact hq' _ (Same.refl _)
 ·rintro e H2 Q' em fe s2 hq'
  have ep2:=s2 _ _ ep
  nofun
  refine ⟨pd,_,rfl,ep2,?_⟩
  nofun
  first | (refine ⟨ep2,?_⟩;rw[zsH]) | rw[zsH] | (show ∃ _,_;rw[zsH])
  have sg:-1<=sgn (e.1,0,0)/\sgn (e.1,0,0)<=1:=by cases e.1 <;> decide
  nofun
  exact hq' _ _ (Same.refl _) rfl
 rintro ys H2 s2 eL hP
 have ye:=LL.eqm hP
 nofun
 refine ⟨l,(es.filter fun e=>decide (e.2.1<=d)).map (fun e:Er=>sgn e*e.2.2),rfl,SqL.of (by rw[eL,ye,ybf];rfl),?_⟩
 rw[zvU]
 nofun
 first | exact ⟨s1.trans s2,h⟩ | exact h
def zk3 (K:W.Frag):Sp:=fun vs H Q _=>L2.Ee4 fun a xs (t:List (Int × Int)) d=>L2.Aa6 (vs=[.ref a,.int d]) (SqL K H a xs) (zA K H xs t) ((t.Pairwise fun s u=>s.1<u.1)) ((∀ s∈t,0<=s.1)) (Q (.int (Sums.valOf t d)) H)
theorem zk7:zj ["table", "day", "many"] qbk (zh zfY):=by walk_at "sp"
theorem zrT (S:Src K mg "value_at" zfY qbk) (T:Txt K mg) (zcL:Def P w K mg base 1 "begun" qat (zi7 K)):Def P w K mg base 2 "value_at" qbk (zk3 K):=by
 exists S.ok,zk7,0
 all_goals obtain ⟨a,xs,t,d,rfl,hS,hR,up,t0,h⟩:=h
 ·rfl
 refine ⟨_,(zc (zk (i:=2) zk7.nd rfl (by walk_at "lc") (zt zcL hr (za (pv 0) (za (pv 1) zd))))
  (zc (zae (zu zaf (pv 2) zb (nomark _))
  (zf (zo zb))
   zS)
  (zf (zo (zq zah (zq zB (pv 0) (zi zak (pv 2) zb) (fun _ _=>rfl)) zb (fun _ _=>rfl)))))),?_⟩
 have xl:=hR.length
 nofun
 refine ⟨a,xs,t.map (·.1),d,rfl,hS,zrJ hR,by rw[ybm];exact up,?_⟩
 intro n B'
 have B:=B'.rows
 nofun
 ·rename_i q
  have:n=0:=by ac_rfl
  subst this
  rw[Stills.zuO t0 B] at h
  exact h
 ·rename_i q
  obtain ⟨k,rfl⟩:∃ k,n=k+1:=⟨n-1,by ac_rfl⟩
  have kl:=B.le
  obtain ⟨p,s,ex,es,hp⟩:=hR.get (yaa (by ac_rfl:k<xs.length))
  have ek:((k+1:Nat):Int)-1=(k:Int):=by ac_rfl
  have at_:atI xs (((k+1:Nat):Int)-1)=some (.ref p):=by
   rw[ek]
   exact zaw (by rw[yaa (by ac_rfl:k<xs.length),ex])
  refine ⟨a,_,_,_,rfl,rfl,hS,at_,?_⟩
  nofun
  rw[Stills.zuA t0 up B es] at h
  exact h
def zkx (K:W.Frag):Sp:=fun vs H Q _=>∃ (a:Addr) (A:BkA) (b:BkT),vs=[.ref a]/\zbd K H a A b /\
 ∀ p ws H',H p=none->Same H H'->H' p=some (.lst ws)->zA K H' ws (runs 0 (shf b.g b.dues))->Q (.ref p) H'
theorem zpA:zj qag qag (zh zeT):=by walk_at "sp"
theorem zq5 (S:Src K mg "late_sums" zeT qag) (T:Txt K mg) (zbn:Def P w K mg base 1 "running_sums" ["rows"] (zdK K)) (zcm:zv P w K mg base 1 (cA K "Book") "dues" qaa (zg8 K)) (zbX:zv P w K mg base 1 (cA K "Book") "grace" qaa (zfC K)):Def P w K mg base 2 "late_sums" qag (zkx K):=by
 exists S.ok,zpA,0
 all_goals obtain ⟨a,A,b,rfl,B,h⟩:=h
 ·rfl
 refine ⟨_,(zf (zo (zt zbn hr (za (zbp (ix:=[0]) ⟨rfl,by decide +kernel,rfl,by decide +kernel,rfl,(show (["due", "book"]:List Str).Nodup by decide +kernel),by walk_at "cap", by walk_at "sub", by walk_at "has"⟩ (zG (zQ zcm T.zF hr (pv 0))) (fun b=>(zap (za (zi zz (zq (zaz K) (pv 0) zb (fun _ _=>rfl)) (zQ zbX T.zF hr (pv 1))) (za (zq (zaz K) (pv 0) zb (fun _ _=>rfl)) zd))))) zd)))),?_⟩
 have sz:=sizeLine_eq
 nofun
 refine ⟨a,A.dx,_,rfl,B.ins,rfl,a,A,b,rfl,B,fun q xs nq hR hl=>?_⟩
 have s1:=ze nq (.lst xs)
 have eQ:=zD (.lst xs) nq
 have hR1:=hR.same s1
 have xl:=hR.length
 generalize upd H q (.lst xs)=H1 at s1 eQ hR1 ⊢
 have B1:=B.same s1
 nofun
 refine ⟨⟨_,SqL.of eQ⟩,fun l nl=>?_⟩
 refine comp_map (zO (SqL.of eQ)) nl (by ac_rfl) b.dues xl.symm (fun H' v s=>∃ t,v=.ref t/\H' t=some (.tup [.int (s.1+b.g),.int s.2])) (fun v e H1 H2 s ⟨t,e1,e2⟩=>⟨t,e1,s _ _ e2⟩) (fun v e H1 ys zs hL ⟨t,e1,e2⟩=>⟨t,e1,by rw[zr (zau e2 hL (by intro z;cases z))];exact e2⟩) ?_ ?_
 ·rintro i x s H' Q' hx hs sH hq
  obtain ⟨u,s',rfl,hs',hu⟩:=(hR1.same sH).get hx
  obtain rfl:s'=s:=Option.some.inj (hs'.symm.trans hs)
  have B':=B1.same sH
  nofun
  refine ⟨a,A.dx,_,rfl,B'.ins,rfl,a,A,b,rfl,B',?_⟩
  nofun
  intro t nt
  exact hq _ _ (ze nt _) ⟨t,rfl,zg⟩
 rintro ys H2 s2 eL hL
 have hS:zA K H2 ys (shf b.g b.dues):=by
  unfold shf
  clear eL
  revert hL
  generalize b.dues=l
  intro hL
  induction hL with
  | nil=>exact .nil
  | cons h _ ih =>
   obtain ⟨t,rfl,e⟩:=h
   exact .cons e ih
 have sl:(shf b.g b.dues).length<=1000:=by unfold shf;rw[yab];exact hl
 nofun
 rename_i p ws H3
 intro np s3 eP rP
 exact h p ws H3 (zM (s1.trans s2) np) (s1.trans (s2.trans s3)) eP rP
def zbK (K:W.Frag):Sp:=fun vs H Q _=>L2.Ee6 fun p dx u m n x=>L2.Aa4 (vs=[.ref p,.int x]) (Deb K H p dx u m n) ((0<u/\u<1152921504606846976)) (Q .non (upd H p (.ins (cA K "Debt") dx (zan u (Dbt.mn m (Dbt.mx 0 ((n+u*x) / u))) (n+u*x)))))
theorem zkY:zj qac qac (zh zce):=by walk_at "sp"
theorem zlI (S:zp K (cA K "Debt") "add_cents" "Debt.add_cents" zce qac) (T:Txt K mg) (za0:zv P w K mg base 1 (cA K "Debt") "owed" qaa (zdF K)):zv P w K mg base 2 (cA K "Debt") "add_cents" qac (zbK K):=by
 exists S.ok,zkY,0
 all_goals obtain ⟨p,dx,u,m,n,x,rfl,e,⟨u0,u1⟩,h⟩:=h
 ·rfl
 refine ⟨_,(zc (zax T.zI T.zU (pv 0) (zi zz (zab T.zI T.zU (pv 0)) (zi zaj (zab T.zI T.zaN (pv 0)) (pv 1))))
  (zf (zax T.zI T.zK (pv 0) (zx (za8 rfl) rfl T.zcM PyProof.Rows.boot_min (za (zab T.zI T.zK (pv 0)) (za (zx (zbm rfl) rfl T.zcp PyProof.Rows.boot_max (za zb (za (zQ za0 T.zI hr (pv 0)) zd))) zd)))))),?_⟩
 nofun
 refine ⟨p,dx,_,_,rfl,e,rfl,?_⟩
 nofun
 refine ⟨p,dx,_,_,rfl,e,rfl,?_⟩
 nofun
 refine ⟨p,dx,_,rfl,e,zbI,?_⟩
 rw[zrR]
 have e1:Deb K (upd H p (.ins (cA K "Debt") dx (zan u m (n+u*x)))) p dx u m (n+u*x):=zg
 nofun
 refine ⟨p,dx,_,_,rfl,e1,rfl,?_⟩
 nofun
 refine ⟨p,dx,_,rfl,e1,rfl,p,dx,u,m,_,rfl,e1,⟨u0,u1⟩,?_⟩
 nofun
 refine ⟨p,dx,_,rfl,e1,zbI,?_⟩
 rw[zou,zZ]
 exact h
def zkz (K:W.Frag):Sp:=fun vs H Q _=>L2.Ee5 fun p dx u m n=>L2.Aa4 (vs=[.ref p]) (Deb K H p dx u m n) ((0<u/\u<1152921504606846976)) (Q .non (upd H p (.ins (cA K "Debt") dx (zan u (Dbt.step u .turn 0 m n).1 (Dbt.step u .turn 0 m n).2))))
theorem zoY:zj qaa qaa (zh ze7):=by walk_at "sp"
theorem zqH (S:zp K (cA K "Debt") "turn" "Debt.turn" ze7 qaa) (T:Txt K mg) (za0:zv P w K mg base 1 (cA K "Debt") "owed" qaa (zdF K)):zv P w K mg base 2 (cA K "Debt") "turn" qaa (zkz K):=by
 exists S.ok,zoY,0
 all_goals obtain ⟨p,dx,u,m,n,rfl,e,hu,h⟩:=h
 ·rfl
 refine ⟨_,(zf (zax T.zI T.zK (pv 0) (zx (zbm rfl) rfl T.zcp PyProof.Rows.boot_max (za zb (za (zQ za0 T.zI hr (pv 0)) zd))))),?_⟩
 nofun
 refine ⟨p,dx,_,rfl,e,rfl,p,dx,u,m,n,rfl,e,hu,?_⟩
 nofun
 refine ⟨p,dx,_,rfl,e,zbI,?_⟩
 rw[zou]
 exact h
def zlq (K:W.Frag):Sp:=fun vs H Q _=>L2.Ee4 fun a xs l d=>L2.Aa5 (vs=[.ref a,.int d]) (SqL K H a xs) (zA K H xs l) (Spans.Joined l) (∀ m,Stills.Free l d m->Q (.int m) H)
theorem zqe:zj ["spans", "day", "many"] qal (zh zkB):=by walk_at "sp"
theorem zvE (S:Src K mg "moved" zkB qal) (T:Txt K mg) (zcL:Def P w K mg base 1 "begun" qat (zi7 K)):Def P w K mg base 2 "moved" qal (zlq K):=by
 exists S.ok,zqe,0
 all_goals obtain ⟨a,xs,l,d,rfl,hS,hR,J,h⟩:=h
 ·rfl
 refine ⟨_,(zc (zk (i:=2) zqe.nd rfl (by walk_at "lc") (zt zcL hr (za (pv 0) (za (pv 1) zd))))
  (zc (zae (zu zaf (pv 2) zb (nomark _))
  (zf (zo (pv 1)))
   zS)
  (zf (zo (zx (zbm rfl) rfl T.zcp PyProof.Rows.boot_max (za (pv 1) (za (zq zah (zq zB (pv 0) (zi zak (pv 2) zb) (fun _ _=>rfl)) zb (fun _ _=>rfl)) zd))))))),?_⟩
 have xl:=hR.length
 nofun
 refine ⟨a,xs,l.map (·.1),d,rfl,hS,zrJ hR,ybm.mpr (Stills.zsW J),?_⟩
 intro n B0
 have B:=B0.rows
 nofun
 ·rename_i q
  have:n=0:=by ac_rfl
  subst this
  exact h _ (Stills.zsh B)
 ·rename_i q
  obtain ⟨k,rfl⟩:∃ k,n=k+1:=⟨n-1,by ac_rfl⟩
  have kl:=B.le
  obtain ⟨p,s,ex,es,hp⟩:=hR.get (yaa (by ac_rfl:k<xs.length))
  have ek:((k+1:Nat):Int)-1=(k:Int):=by ac_rfl
  have at_:atI xs (((k+1:Nat):Int)-1)=some (.ref p):=by
   rw[ek]
   exact zaw (by rw[yaa (by ac_rfl:k<xs.length),ex])
  refine ⟨a,_,_,_,rfl,rfl,hS,at_,?_⟩
  nofun
  exact h _ (Stills.zrQ J B es)
def zha (K:W.Frag):Sp:=fun vs H Q _=>∃ a A b,vs=[.ref a]/\zbd K H a A b/\BOk b /\
 ∀ p (ns:List Int) H',H p=none->Same H H'->H' p=some (.lst (ns.map V.int))->ns.Pairwise (·<·)->(∀ d,d∈ns↔TDay b d)->ns.length<64->Q (.ref p) H'
theorem zdU:zj ["book", "days", "span"] qag (zh zcT):=by walk_at "sp"
theorem znf (S:Src K mg "turning_days" zcT qag) (T:Txt K mg) (zbY:zv P w K mg base 1 (cA K "Book") "rates" qaa (zfv K)) (zbR:zv P w K mg base 1 (cA K "Book") "lates" qaa (zfH K)) (za3:zv P w K mg base 1 (cA K "Book") "pays" qaa (zdT K)) (zcm:zv P w K mg base 1 (cA K "Book") "dues" qaa (zg8 K)) (zbX:zv P w K mg base 1 (cA K "Book") "grace" qaa (zfC K)) (zbA:zv P w K mg base 1 (cA K "Book") "stills" qaa (zeu K)):Def P w K mg base 2 "turning_days" qag (zha K):=by
 exists S.ok,zdU,0
 all_goals obtain ⟨a,A,b,rfl,B,O,h⟩:=h
 ·rfl
 refine ⟨_,(zc (zk (i:=1) zdU.nd rfl (by walk_at "lc") (zat (za zb zd)))
  (zc (zam (zfb PySem.F.plainAttrs_list PySem.F.slot_list_extend PySem.F.type_list_extend znG (pv 1) (za (zbp (ix:=[]) ⟨rfl,by decide +kernel,rfl,by decide +kernel,rfl,(show (["row"]:List Str).Nodup by decide +kernel),by walk_at "cap", by walk_at "sub", by walk_at "has"⟩ (zG (zi zcg (zi zcg (zQ zbY T.zF hr (pv 0)) (zQ zbR T.zF hr (pv 0))) (zQ za3 T.zF hr (pv 0)))) (fun b=>(zq (zaz K) (pv 0) zb (fun _ _=>rfl)))) zd)))
  (zc (zam (zfb PySem.F.plainAttrs_list PySem.F.slot_list_extend PySem.F.type_list_extend znG (pv 1) (za (zbp (ix:=[0]) ⟨rfl,by decide +kernel,rfl,by decide +kernel,rfl,(show (["row", "book"]:List Str).Nodup by decide +kernel),by walk_at "cap", by walk_at "sub", by walk_at "has"⟩ (zG (zQ zcm T.zF hr (pv 0))) (fun b=>(zi zz (zq (zaz K) (pv 0) zb (fun _ _=>rfl)) (zQ zbX T.zF hr (pv 1))))) zd)))
  (zc (zbQ PassesOwn.never rfl (zG (zQ zbA T.zF hr (pv 0))) (zC (i:=2) zdU.nd rfl (by walk_at "lc"))
  (zf (zam (zfb PySem.F.plainAttrs_list PySem.F.slot_list_extend PySem.F.type_list_extend zsa (pv 1) (za (pv 2) zd)))))
  (zf (zo (zx (zcy rfl) rfl T.zbG PyProof.Rows.boot_sorted (za (zT (zfg rfl) rfl T.ziZ PyProof.Rows.boot_set (za (pv 1) zd)) zd)))))))),?_⟩
 have sz:=sizeLine_eq
 have osz:=O.sz
 nofun
 intro p np
 have s1:=ze np (.lst [.int 0])
 have eP:=zD (.lst [.int 0]) np
 generalize upd H p (.lst [.int 0])=H1 at s1 eP ⊢
 have B1:=B.same s1
 nofun
 refine ⟨.inl ⟨rfl,_,SqL.of eP⟩,?_⟩
 nofun
 refine ⟨a,A.dx,_,rfl,B1.ins,rfl,a,A,b,rfl,B1,fun q1 x1 n1 r1 l1=>?_⟩
 have t1:=ze n1 (.lst x1)
 have e1:=zD (.lst x1) n1
 have B2:=B1.same t1
 nofun
 refine ⟨a,A.dx,_,rfl,B2.ins,rfl,a,A,b,rfl,B2,fun q2 x2 n2 r2 l2=>?_⟩
 have t2:=ze n2 (.lst x2)
 have e2:=zD (.lst x2) n2
 have c1:=r1.length
 have c2:=r2.length
 refine ⟨q1,q2,x1,x2,rfl,rfl,t2 _ _ e1,e2,by ac_rfl,fun q3 n3=>?_⟩
 have t3:=ze n3 (.lst (x1++x2))
 have e3:=zD (.lst (x1++x2)) n3
 have B4:=B2.same (t2.trans t3)
 nofun
 refine ⟨a,A.dx,_,rfl,B4.ins,rfl,a,A,b,rfl,B4,fun q4 x4 n4 r4 l4=>?_⟩
 have t4:=ze n4 (.lst x4)
 have e4:=zD (.lst x4) n4
 have c4:=r4.length
 refine ⟨q3,q4,x1++x2,x4,rfl,rfl,t4 _ _ e3,e4,by rw[yai];ac_rfl,fun q5 n5=>?_⟩
 have t5:=ze n5 (.lst (x1++x2++x4))
 have e5:=zD (.lst (x1++x2++x4)) n5
 have t15:=t1.trans (t2.trans (t3.trans (t4.trans t5)))
 have rX:zA K _ (x1++x2++x4) (b.rates++b.lates++b.pays):=ziO (ziO (r1.same t15) (r2.same (t2.trans (t3.trans (t4.trans t5))))) (r4.same (t4.trans t5))
 have eP5:=t15 _ _ eP
 have s15:=s1.trans t15
 generalize upd (upd (upd (upd (upd H1 q1 (.lst x1)) q2 (.lst x2)) q3 (.lst (x1++x2))) q4 (.lst x4)) q5 (.lst (x1++x2++x4))=H5 at rX eP5 s15 e5 ⊢
 have xl:=rX.length
 clear t15 t1 t2 t3 t4 t5 e1 e2 e3 e4 B2 B4 r1 r2 r4
 nofun
 refine ⟨⟨_,SqL.of e5⟩,fun l6 n6=>?_⟩
 have gd:∀ (u:List (Int × Int)) (f:Int × Int->Int) (i:Nat) (s:Int × Int),u[i]?=some s->(u.map f).getD i 0=f s:=fun u f i s e=>by
  rw[yad,yaj,e];rfl
 have xl2:(x1++x2++x4).length<=63:=by rw[yai,yai];ac_rfl
 refine zkr (fun i v=>v=.int (((b.rates++b.lates++b.pays).map (·.1)).getD i 0)) (SqL.of e5) n6 (by ac_rfl) ?_ ?_
 ·intro i x H' Q' hx sH hq
  obtain ⟨p,s,rfl,e,ht⟩:=rX.get hx
  nofun
  exact ⟨p,_,_,_,rfl,rfl,SqT.of (sH _ _ ht),rfl,hq _ (by rw[gd _ _ i s e])⟩
 intro ys1 len1 hp1
 obtain rfl:=zmZ (ns:=(b.rates++b.lates++b.pays).map (·.1)) (by rw[len1,yab,xl]) hp1
 have s6:=ze n6 (.lst (((b.rates++b.lates++b.pays).map (·.1)).map V.int))
 have e6:=zD (.lst (((b.rates++b.lates++b.pays).map (·.1)).map V.int)) n6
 have eP6:=s6 _ _ eP5
 have kl:((b.rates++b.lates++b.pays).map (·.1)).length=b.rates.length+b.lates.length+b.pays.length:=by rw[yab,yai,yai]
 nofun
 refine ⟨p,l6,_,_,rfl,rfl,eP6,e6,by rw[yab];show 1+_<=_;ac_rfl,?_⟩
 generalize hD1:(b.rates++b.lates++b.pays).map (·.1)=D1 at *
 have s7:Same H (upd (upd H5 l6 (.lst (D1.map V.int))) p (.lst ([.int 0]++D1.map V.int))):=zN (s15.trans s6) np
 have eP7:(upd (upd H5 l6 (.lst (D1.map V.int))) p (.lst ([.int 0]++D1.map V.int))) p=some (.lst ((0::D1).map V.int)):=zg
 generalize upd (upd H5 l6 (.lst (D1.map V.int))) p (.lst ([.int 0]++D1.map V.int))=H7 at s7 eP7 ⊢
 have B7:=B.same s7
 nofun
 refine ⟨.inl ⟨rfl,_,SqL.of eP7⟩,?_⟩
 nofun
 refine ⟨a,A.dx,_,rfl,B7.ins,rfl,a,A,b,rfl,B7,fun q8 x8 n8 r8 l8=>?_⟩
 have s8:=ze n8 (.lst x8)
 have e8:=zD (.lst x8) n8
 have r8':=r8.same s8
 have c8:=r8.length
 have eP8:=s8 _ _ eP7
 have s78:=s7.trans s8
 generalize upd H7 q8 (.lst x8)=H8 at s8 e8 r8' eP8 s78 ⊢
 have B8:=B.same s78
 nofun
 refine ⟨⟨_,SqL.of e8⟩,fun l9 n9=>?_⟩
 refine zkr (fun i v=>v=.int ((b.dues.map fun s=>s.1+b.g).getD i 0)) (SqL.of e8) n9 (by ac_rfl) ?_ ?_
 ·intro i x H' Q' hx sH hq
  obtain ⟨u,s,rfl,e,ht⟩:=r8'.get hx
  have hu:=sH _ _ ht
  nofun
  refine ⟨a,A.dx,_,rfl,(B8.same sH).ins,rfl,a,A,b,rfl,B8.same sH,?_⟩
  nofun
  exact hq _ (by rw[gd _ _ i s e])
 intro ys2 len2 hp2
 obtain rfl:=zmZ (ns:=b.dues.map fun s=>s.1+b.g) (by rw[len2,yab,c8]) hp2
 have s9:=ze n9 (.lst ((b.dues.map fun s=>s.1+b.g).map V.int))
 have e9:=zD (.lst ((b.dues.map fun s=>s.1+b.g).map V.int)) n9
 have eP9:=s9 _ _ eP8
 have kl2:(b.dues.map fun s=>s.1+b.g).length=b.dues.length:=yab ..
 nofun
 refine ⟨p,l9,_,_,rfl,rfl,eP9,e9,by rw[yab,yab];show D1.length+1+_<=_;ac_rfl,?_⟩
 generalize hD2:(b.dues.map fun s=>s.1+b.g)=D2 at *
 have cat:(0::D1).map V.int++D2.map V.int=(0::D1++D2).map V.int:=by rw[yau]
 rw[cat]
 have sA:Same H (upd (upd H8 l9 (.lst (D2.map V.int))) p (.lst ((0::D1++D2).map V.int))):=zN (s78.trans s9) np
 have ePA:(upd (upd H8 l9 (.lst (D2.map V.int))) p (.lst ((0::D1++D2).map V.int))) p=some (.lst ((0::D1++D2).map V.int)):=zg
 generalize upd (upd H8 l9 (.lst (D2.map V.int))) p (.lst ((0::D1++D2).map V.int))=HA at sA ePA ⊢
 have BA:=B.same sA
 nofun
 refine ⟨a,A.dx,_,rfl,BA.ins,rfl,a,A,b,rfl,BA,fun qS xS nS rS lS=>?_⟩
 have sS:=ze nS (.lst xS)
 have eS:=zD (.lst xS) nS
 have rS':=rS.same sS
 have cS:=rS.length
 have ePS:=sS _ _ ePA
 have sB:=sA.trans sS
 have nqp:qS≠p:=(zW ePA nS).symm
 generalize upd HA qS (.lst xS)=HB at sS eS rS' ePS sB ⊢
 nofun
 refine ⟨⟨_,SqL.of eS⟩,zbH (xs:=xS) (fun i σ H'=>∃ (D3:List Int) (z:Option V),(Same H H'/\H' p=some (.lst ((0::D1++D2++D3).map V.int))/\H' qS=some (.lst xS)/\zA K H' xS b.spans)/\D3.length=2*i/\(∀ d,d∈D3↔∃ s∈b.spans.take i,d=s.1\/d=s.2)/\σ=[some (.ref a),some (.ref p),z])
  ⟨[],_,⟨sB,by rw[yci];exact ePS,eS,rS'⟩,rfl,fun d=>by simp,rfl⟩ ?_ ?_ ?_⟩
 ·rintro i σ H' _ ⟨D3,z,⟨_,_,e,_⟩,_⟩
  exact SqL.of e
 ·rintro i x σ H' hx ⟨D3,z,⟨sH,eP',eS',rS''⟩,dl,mem,rfl⟩
  obtain ⟨u,s,rfl,hs,hu⟩:=rS''.get hx
  have il:i<b.spans.length:=(yac.mp hs).1
  have tk:b.spans.take (i+1)=b.spans.take i++[s]:=by rw[ybb,hs];rfl
  nofun
  refine ⟨.inl ⟨rfl,_,SqL.of eP'⟩,?_⟩
  nofun
  refine ⟨p,u,_,_,rfl,rfl,eP',hu,by simp;ac_rfl,?_⟩
  refine ⟨D3++[s.1,s.2],_,⟨zN sH np,by rw[<-List.append_assoc,yau (l₂:=[s.1,s.2])];exact zg,by rw[zr nqp];exact eS',rS''.put eP'⟩,by rw[yai];show D3.length+2=_;ac_rfl,fun d=>?_,rfl⟩
  rw[yaf,mem,tk]
  constructor
  ·rintro (⟨u,hu,e⟩ | e)
   ·exact ⟨u,yaf.mpr (.inl hu),e⟩
   ·exact ⟨s,yaf.mpr (.inr (by simp)),by simpa using e⟩
  ·rintro ⟨u,hu,e⟩
   rcases yaf.mp hu with hu | hu
   ·exact .inl ⟨u,hu,e⟩
   ·obtain rfl:u=s:=by simpa using hu
    exact .inr (by simpa using e)
 ·rintro σ H' ⟨D3,z,⟨sH,eP',eS',rS''⟩,dl,mem,rfl⟩
  rw[cS,ycd] at mem
  rw[cS] at dl
  nofun
  refine ⟨p,_,rfl,SqL.of eP',by simp;ac_rfl,fun pS HS ms nPS sPS ePS2 nd mm lm=>?_⟩
  nofun
  refine ⟨pS,ms,rfl,ePS2,ydc lm (by simp;ac_rfl),fun pR HR ns nPR sPR ePR pm up=>?_⟩
  refine h pR ns HR (zM (sH.trans sPS) nPR) (sH.trans (sPS.trans sPR)) ePR (zhc pm nd up) (fun d=>?_) (by rw[pm.length_eq];exact ydc lm (by simp;ac_rfl))
  rw[pm.mem_iff,mm,yaf,yaf,yak,mem,<-hD1,<-hD2]
  unfold TDay
  constructor
  ·rintro (((h1 | h1) | h1) | h1)
   ·exact .inl h1
   ·obtain ⟨s,hs,e⟩:=yah.mp h1
    exact .inr (.inl ⟨s,hs,e.symm⟩)
   ·obtain ⟨s,hs,e⟩:=yah.mp h1
    exact .inr (.inr (.inl ⟨s,hs,e.symm⟩))
   ·exact .inr (.inr (.inr h1))
  ·rintro (h1 | ⟨s,hs,e⟩ | ⟨s,hs,e⟩ | h1)
   ·exact .inl (.inl (.inl h1))
   ·exact .inl (.inl (.inr (yah.mpr ⟨s,hs,e.symm⟩)))
   ·exact .inl (.inr (yah.mpr ⟨s,hs,e.symm⟩))
   ·exact .inr h1
def zjy (P:Program) (w:World) (K:W.Frag):Sp:=fun vs H Q _=>L2.Ee6 fun a p A (b:BkT) (ms:List Int) z=>L2.Aa6 (vs=[.ref a,.ref p]) (zbd K H a A b) (zbf b) (H p=some (.lst ((ms++[z]).map V.int))) (b.outs.length+b.fees.length+b.pays.length+b.turns.length+ms.length<=60) (∀ q ws (ds:List Int) H',H q=none->Same H H'->H' q=some (.lst ws)->R5 b H' ws ds->ds.Pairwise (·<·)->(∀ d,d∈ds↔(DDay b d/\d<z)\/d∈ms++[z])->ds.length<=62->Q (.ref q) H')
theorem zby:zj ["book", "days", "outs", "fees", "turns", "pays", "all_days"] qao (zh zdI):=by walk_at "sp"
theorem zoX (S:Src K mg "deeds_upto" zdI qao) (T:Txt K mg) (zhW:zv P w K mg base 1 (cA K "Book") "outs" qaa (zjI K)) (zic:zv P w K mg base 1 (cA K "Book") "fees" qaa (zj0 K)) (zgL:zv P w K mg base 1 (cA K "Book") "turns" qaa (zju K)) (za3:zv P w K mg base 1 (cA K "Book") "pays" qaa (zdT K)) (zdn:zv P w K mg base 1 (cA K "Book") "deed_days" qaa (zfS K)):Def P w K mg base 2 "deeds_upto" qao (zjy P w K):=by
 exists S.ok,zby,0
 all_goals obtain ⟨a,p,A,b,ms,z,rfl,B,I,hp,osz,h⟩:=h
 ·rfl
 refine ⟨_,(zc (zk (i:=2) zby.nd rfl (by walk_at "lc") (zT (zdO rfl) rfl T.zfm PyProof.Rows.boot_dict (za (zQ zhW T.zF hr (pv 0)) zd)))
  (zc (zk (i:=3) zby.nd rfl (by walk_at "lc") (zT (zdO rfl) rfl T.zfm PyProof.Rows.boot_dict (za (zQ zic T.zF hr (pv 0)) zd)))
  (zc (zk (i:=4) zby.nd rfl (by walk_at "lc") (zT (zdO rfl) rfl T.zfm PyProof.Rows.boot_dict (za (zbp (ix:=[]) ⟨rfl,by decide +kernel,rfl,by decide +kernel,rfl,(show (["turn"]:List Str).Nodup by decide +kernel),by walk_at "cap", by walk_at "sub", by walk_at "has"⟩ (zG (zQ zgL T.zF hr (pv 0))) (fun b=>(zap (za (pv 0) (za zb zd))))) zd)))
  (zc (zk (i:=5) zby.nd rfl (by walk_at "lc") (zT (zdO rfl) rfl T.zfm PyProof.Rows.boot_dict (za (zQ za3 T.zF hr (pv 0)) zd)))
  (zc (zk (i:=6) zby.nd rfl (by walk_at "lc") (zx (zcy rfl) rfl T.zbG PyProof.Rows.boot_sorted (za (zT (zfg rfl) rfl T.ziZ PyProof.Rows.boot_set (za (zi zcg (zbl (ix:=[1]) ⟨rfl,by decide +kernel,rfl,by decide +kernel,rfl,(show (["deed", "days"]:List Str).Nodup by decide +kernel),by walk_at "cap", by walk_at "sub", by walk_at "has"⟩ (zG (zQ zdn T.zF hr (pv 0))) (fun b=>(zu ze3 (pv 0) (zq (zeG K) (pv 1) (ziK zgv zb) (fun _ _=>rfl)) (nomark _))) (fun b=>(pv 0))) (pv 1)) zd)) zd)))
  (zf (zo (zbp (ix:=[3,2,5,4]) ⟨rfl,by decide +kernel,rfl,by decide +kernel,rfl,(show (["deed", "fees", "outs", "pays", "turns"]:List Str).Nodup by decide +kernel),by walk_at "cap", by walk_at "sub", by walk_at "has"⟩ (zG (pv 6)) (fun b=>(zap (za (pv 0) (za (ziT P w (pv 2) (pv 0) zb) (za (ziT P w (pv 1) (pv 0) zb) (za (ziT P w (pv 4) (pv 0) zb) (za (ziT P w (pv 3) (pv 0) zb) zd))))))))))))))),?_⟩
 have sz:=sizeLine_eq
 nofun
 refine ⟨a,A.dx,_,rfl,B.ins,rfl,a,A,b,rfl,B,fun q1 x1 n1 r1 l1=>?_⟩
 have s1:=ze n1 (.lst x1)
 have e1:=zD (.lst x1) n1
 have r1':=r1.same s1
 generalize upd H q1 (.lst x1)=G1 at s1 e1 r1' ⊢
 nofun
 refine ⟨q1,x1,b.outs,rfl,e1,r1',by ac_rfl,fun d1 H1 nd1 t1 ed1=>?_⟩
 have u1:=s1.trans t1
 have B1:=B.same u1
 nofun
 refine ⟨a,A.dx,_,rfl,B1.ins,rfl,a,A,b,rfl,B1,fun q2 x2 n2 r2 l2=>?_⟩
 have s2:=ze n2 (.lst x2)
 have e2:=zD (.lst x2) n2
 have r2':=r2.same s2
 generalize upd H1 q2 (.lst x2)=G2 at s2 e2 r2' ⊢
 nofun
 refine ⟨q2,x2,b.fees,rfl,e2,r2',by ac_rfl,fun d2 H2 nd2 t2 ed2=>?_⟩
 have u2:=s2.trans t2
 have u12:=u1.trans u2
 have B2:=B.same u12
 have tnd:b.turns.Nodup:=Sby.zeb I.turns.up
 nofun
 refine ⟨a,A.dx,_,rfl,B2.ins,rfl,a,A,b,rfl,B2,fun q3 n3=>?_⟩
 have s3:=ze n3 (.lst (b.turns.map V.int))
 have e3:=zD (.lst (b.turns.map V.int)) n3
 generalize upd H2 q3 (.lst (b.turns.map V.int))=G3 at s3 e3 ⊢
 nofun
 refine ⟨⟨_,SqL.of e3⟩,fun l4 nl4=>?_⟩
 refine comp_map (zO (SqL.of e3)) nl4 (by rw[yab];ac_rfl) b.turns (by rw[yab]) (fun H' v d=>∃ t,v=.ref t/\H' t=some (.tup [.int d,.int 1])) (fun v e H1 H2 s ⟨t,e1,e2⟩=>⟨t,e1,s _ _ e2⟩) (fun v e H1 ys zs hL ⟨t,e1,e2⟩=>⟨t,e1,by rw[zr (zau e2 hL (by intro z;cases z))];exact e2⟩) ?_ ?_
 ·rintro i x d H' Q' hx hd sH hq
  rw[yaj,hd] at hx
  cases hx
  nofun
  intro t nt
  exact hq _ _ (ze nt _) ⟨t,rfl,zg⟩
 rintro y4 H4 t4 e4 hL4
 have r4:zA K H4 y4 (b.turns.map fun d=>(d,1)):=by
  clear e4 tnd
  revert hL4
  generalize b.turns=l
  intro hL
  induction hL with
  | nil=>exact .nil
  | cons h _ ih =>
   obtain ⟨t,rfl,e⟩:=h
   exact .cons e ih
 have u34:=s3.trans t4
 nofun
 refine ⟨l4,y4,b.turns.map fun d=>(d,1),rfl,e4,r4,by rw[yab];ac_rfl,fun d3 H5 nd3 t5 ed3=>?_⟩
 have u35:=u34.trans t5
 have u15:=u12.trans u35
 have B5:=B.same u15
 nofun
 refine ⟨a,A.dx,_,rfl,B5.ins,rfl,a,A,b,rfl,B5,fun q6 x6 n6 r6 l6=>?_⟩
 have s6:=ze n6 (.lst x6)
 have e6:=zD (.lst x6) n6
 have r6':=r6.same s6
 generalize upd H5 q6 (.lst x6)=G6 at s6 e6 r6' ⊢
 nofun
 refine ⟨q6,x6,b.pays,rfl,e6,r6',by ac_rfl,fun d6 H6 nd6 t6 ed6=>?_⟩
 have u6:=s6.trans t6
 have u16:=u15.trans u6
 have B6:=B.same u16
 nofun
 refine ⟨a,A.dx,_,rfl,B6.ins,rfl,a,A,b,rfl,B6,by ac_rfl,fun q7 ns H7 n7 t7 e7 up7 mem7 len7=>?_⟩
 have hp7:=(u16.trans t7) _ _ hp
 have atz:∀ xs:List Int,atI ((xs++[z]).map V.int) (-1)=some (.int z):=fun xs=>by
  unfold atI ixN
  simp
  rw[if_pos (by ac_rfl),Option.bind_some,show (-1+((xs.length:Int)+1)).toNat=xs.length by ac_rfl,ybh (by simp)]
  simp
 nofun
 refine ⟨⟨_,SqL.of e7⟩,fun l8 nl8=>?_⟩
 refine zj3 (zO (SqL.of e7)) nl8 (by rw[yab];ac_rfl) ns (by rw[yab]) (fun d=>decide (d<z)) (fun H' v d=>v=.int d) (fun v e H1 H2 s e1=>e1) (fun v e H1 ys zs hL e1=>e1) ?_ ?_ ?_
 ·rintro i x d H' Q' hx hd sH hq
  rw[yaj,hd] at hx
  cases hx
  nofun
  refine ⟨p,_,_,_,rfl,rfl,SqL.of (sH _ _ hp7),atz ms,?_⟩
  nofun
  exact hq _ (Same.refl _)
 ·rintro i x d H' Q' hx hd fd sH hq
  rw[yaj,hd] at hx
  cases hx
  nofun
  exact hq _ _ (Same.refl _) rfl
 rintro y8 H8 t8 e8 hL8
 obtain rfl:y8=(ns.filter fun d=>decide (d<z)).map V.int:=by
  clear e8
  revert hL8
  generalize ns.filter (fun d=>decide (d<z))=l
  intro hL
  induction hL with
  | nil=>rfl
  | cons h _ ih=>rw[h,ih];rfl
 have fl:=yaq (fun d=>decide (d<z)) ns
 have hp8:=t8 _ _ hp7
 have ml:(ms++[z]).length=ms.length+1:=by simp
 nofun
 refine ⟨l8,p,_,_,rfl,rfl,e8,hp8,by rw[yab,yab];ac_rfl,fun q9 n9=>?_⟩
 rw[<-yau]
 have s9:=ze n9 (.lst (((ns.filter fun d=>decide (d<z))++(ms++[z])).map V.int))
 have e9:=zD (.lst (((ns.filter fun d=>decide (d<z))++(ms++[z])).map V.int)) n9
 have u19:=u16.trans (t7.trans (t8.trans s9))
 have u29:=u2.trans (u35.trans (u6.trans (t7.trans (t8.trans s9))))
 have u39:=u35.trans (u6.trans (t7.trans (t8.trans s9)))
 have u59:=u6.trans (t7.trans (t8.trans s9))
 have u69:=t7.trans (t8.trans s9)
 generalize upd H8 q9 (.lst (((ns.filter fun d=>decide (d<z))++(ms++[z])).map V.int))=H9 at s9 e9 u19 u29 u39 u59 u69 ⊢
 have dl:((ns.filter fun d=>decide (d<z))++(ms++[z])).length<=61:=by rw[yai];ac_rfl
 nofun
 refine ⟨q9,_,rfl,SqL.of e9,by ac_rfl,fun pS HS ks nPS sPS ePS nd mm lm=>?_⟩
 nofun
 refine ⟨pS,ks,rfl,ePS,by ac_rfl,fun pR HR ds nPR sPR ePR pm up=>?_⟩
 have v1:=(u29.trans (sPS.trans sPR)) _ _ ed1
 have v2:=(u39.trans (sPS.trans sPR)) _ _ ed2
 have v3:=(u59.trans (sPS.trans sPR)) _ _ ed3
 have v4:=(u69.trans (sPS.trans sPR)) _ _ ed6
 have vH:=u19.trans (sPS.trans sPR)
 have dsl:ds.length<=62:=by rw[pm.length_eq];ac_rfl
 nofun
 refine ⟨⟨_,SqL.of ePR⟩,fun lZ nlZ=>?_⟩
 refine comp_map (zO (SqL.of ePR)) nlZ (by rw[yab];ac_rfl) ds (by rw[yab]) (fun H' v d=>∃ t,v=.ref t/\H' t=some (.tup [.int d,.int (ddo b d).1,.int (ddo b d).2.1,.int (ddo b d).2.2.1,.int (ddo b d).2.2.2])) (fun v e H1 H2 s ⟨t,e1,e2⟩=>⟨t,e1,s _ _ e2⟩) (fun v e H1 ys zs hL ⟨t,e1,e2⟩=>⟨t,e1,by rw[zr (zau e2 hL (by intro z;cases z))];exact e2⟩) ?_ ?_
 ·rintro i x d H' Q' hx hd sH hq
  rw[yaj,hd] at hx
  cases hx
  have w1:=sH _ _ v1
  have w2:=sH _ _ v2
  have w3:=sH _ _ v3
  have w4:=sH _ _ v4
  have tE:(if d∈b.turns then (1:Int) else 0)=if d∈dys "turn" b.es then 1 else 0:=by
   by_cases c:d∈b.turns
   ·rw[if_pos c,if_pos ((I.turns.mem d).mp c)]
   ·rw[if_neg c,if_neg fun z=>c ((I.turns.mem d).mpr z)]
  nofun
  refine ⟨d1,_,rfl,w1,?_⟩
  nofun
  refine ⟨w1,?_⟩
  rw[znl I.outs]
  nofun
  refine ⟨d2,_,rfl,w2,?_⟩
  nofun
  refine ⟨w2,?_⟩
  rw[znl I.fees]
  nofun
  refine ⟨d3,_,rfl,w3,?_⟩
  nofun
  refine ⟨w3,?_⟩
  rw[zt7 tnd,tE]
  nofun
  refine ⟨d6,_,rfl,w4,?_⟩
  nofun
  refine ⟨w4,?_⟩
  rw[znl I.pays]
  nofun
  intro t nt
  exact hq _ _ (ze nt _) ⟨t,rfl,zg⟩
 rintro yZ HZ tZ eZ hZ
 refine h lZ yZ ds HZ (zM vH nlZ) (vH.trans tZ) eZ hZ (zhc pm nd up) (fun d=>?_) dsl
 rw[pm.mem_iff,mm,yaf,yal,mem7]
 simp
def zjz (K:W.Frag):Sp:=fun vs H Q _=>∃ y m,vs=[.int y,.int m]/\1<=m/\m<=12/\Q (.int (Cal.mlen y m)) H
theorem znP:zj qay qay (zh zec):=by walk_at "sp"
theorem zpo (S:Src K mg "month_days" zec qay) (T:Txt K mg) (zdt:Def P w K mg base 1 "is_leap" qah (zjd K)):Def P w K mg base 2 "month_days" qay (zjz K):=by
 exists S.ok,znP,0
 all_goals obtain ⟨y,m,rfl,h1,h2,h⟩:=h
 ·rfl
 refine ⟨_,(zc (zae (PW.pt (zee (zu zaf (pv 1) zb (nomark _)) (zdv (zgQ (zt zdt hr (za (pv 0) zd))))))
  (zf (zo zb))
   zS)
  (zf (zo (zq zah (zwc T.zky) (zi zak (pv 1) zb) (fun _ _=>rfl))))),?_⟩
 have tab:∀ a:Addr,(∀ H,SqT K H a [.int 31,.int 28,.int 31,.int 30,.int 31,.int 30,.int 31,.int 31,.int 30,.int 31,.int 30,.int 31])->(m=2->Cal.leap y=false) ->
   ∃ p xs i v,V.ref a=.ref p/\V.int (m-1)=.int i/\SqT K H p xs/\atI xs i=some v/\Q v H:=fun a ha hb=>by
  have q:m=1\/m=2\/m=3\/m=4\/m=5\/m=6\/m=7\/m=8\/m=9\/m=10\/m=11\/m=12:=by ac_rfl
  rcases q with rfl | rfl | rfl | rfl | rfl | rfl | rfl | rfl | rfl | rfl | rfl | rfl
  all_goals refine ⟨_,_,_,_,rfl,rfl,ha H,rfl,qi h (by simp[Cal.mlen,Cal.lp, *])⟩
 nofun
 ·refine ifB (fun hb=>?_) (fun hb=>?_)
  ·exact qi h (by simp[Cal.mlen,Cal.lp, *])
  ·intro a ha
   nofun
   exact tab a ha (fun _=>hb)
 ·intro a ha
  nofun
  exact tab a ha (fun z=>absurd z (by assumption))
def zi0 (K:W.Frag):Sp:=fun vs H Q _=>∃ d,vs=[.int d]/\∀ y,Cal.ny y<=d->d<Cal.ny (y+1)->Q (.int y) H
theorem ziJ:zj ["day", "year"] qan (zh zhf):=by walk_at "sp"
theorem ztY (S:Src K mg "year_of" zhf qan) (T:Txt K mg) (zbj:Def P w K mg base 1 "new_year" qah (zfc K)):Def P w K mg base 2 "year_of" qan (zi0 K):=by
 exists S.ok,ziJ,0
 all_goals obtain ⟨d,rfl,h⟩:=h
 ·rfl
 refine ⟨_,(zc (zk (i:=1) ziJ.nd rfl (by walk_at "lc") (zi zak (zi zz (zcK T.zbS) (zi zb2 (zi zaj (pv 0) (zcK T.zfI)) (zcK T.zgS))) zb))
  (zc (zdp PassesOwn.never (zu zc4 (zt zbj hr (za (zi zz (pv 1) zb) zd)) (pv 0) (nomark _))
  (zf (zk (i:=1) ziJ.nd rfl (by walk_at "lc") (zi zz (pv 1) zb))))
  (zf (zo (pv 1))))),?_⟩
 nofun
 refine ⟨fun n σ H'=>H=H'/\∃ y,σ=[some (.int d),some (.int y)]/\Cal.ny y<=d/\n=(d-Cal.ny y).toNat,⟨_,rfl,_,rfl,Cal.zsI,rfl⟩,?_⟩
 rintro n σ H' ⟨rfl,y,rfl,hy,rfl⟩
 nofun
 ·refine ⟨_,fun σ' H' z=>z,?_⟩
  nofun
  have e:=Cal.zbU y
  have l:=Cal.zlW y
  exact ⟨_,by ac_rfl,rfl,_,rfl,by assumption,rfl⟩
 ·exact h y hy (by ac_rfl)
def zjZ (kd:Kd) (K:W.Frag):Sp:=fun vs H Q _=>∃ a,vs=[.ref a]/\zb5 K H a kd/\Q (.int (10000*yr kd)) H
theorem zof:zj qaa qaa (zh zaG):=by walk_at "sp"
theorem zd6 (kd:Kd) (hk:kd=.plain\/kd=.bank\/kd=.thirty\/kd=.exact) (S:zp K (cA K kd.cls) "unit" "Count.unit" zaG qaa) (T:Txt K mg) (zb1:∀ kd:Kd,zv P w K mg base 1 (cA K kd.cls) "year" qaa (zcw kd K)):zv P w K mg base 2 (cA K kd.cls) "unit" qaa (zjZ kd K):=by
 exists S.ok,zof,0
 all_goals obtain ⟨a,rfl,hc,h⟩:=h
 ·rfl
 refine ⟨_,(zf (zo (zi zaj (zcK T.zgX) (zj5 zb1 T.cls hr (pv 0))))),?_⟩
 nofun
 refine ⟨kd,a,rfl,hc,?_⟩
 nofun
 exact h
def zaV (K:W.Frag):Sp:=fun vs H Q _=>L2.Ee5 fun p C dx d x=>L2.Aa6 (vs=[.ref p,.int d,.int x]) (H p=some (.ins C dx [])) (Cls K C) (zV K C "day") (zV K C "amount") (Q .non (upd H p (.ins C dx [("day", .int d),("amount", .int x)])))
theorem zjH:zj qai qai (zh zX):=by walk_at "sp"
theorem zbE (x:Str) (S:zp K (cA K x) "__init__" "AmountEntry.__init__" zX qai) (T:Txt K mg) (zaa:zmI P w K mg base 1 (cA K "Entry") "__init__" qab (zbB K)):zv P w K mg base 2 (cA K x) "__init__" qai (zaV K):=by
 exists S.ok,zjH,0
 all_goals obtain ⟨p,C,dx,d,x,rfl,e,hc,n1,n2,h⟩:=h
 ·rfl
 refine ⟨_,(zc (zam (zpy zaa (zf9 (v:=.ref (cA K "Entry")) rfl T.zii rfl) hr (za (pv 0) (za (pv 1) zd))))
  (zf (zks (pv 0) (pv 2) rfl))),?_⟩
 nofun
 refine ⟨p,C,dx,[],d,rfl,e,hc,n1,by decide,?_⟩
 nofun
 refine ⟨p,C,dx,_,rfl,zg,hc,n2,ydc (ycz 1) (by decide),?_⟩
 rw[zZ]
 exact h
def zcX (K:W.Frag):Sp:=fun vs H Q _=>L2.Ee5 fun p C dx d x=>L2.Aa6 (vs=[.ref p,.int d,.int x]) (H p=some (.ins C dx [])) (Cls K C) (zV K C "day") (zV K C "rate") (Q .non (upd H p (.ins C dx [("day", .int d),("rate", .int x)])))
theorem zk0:zj qar qar (zh zaY):=by walk_at "sp"
theorem zgB (x:Str) (S:zp K (cA K x) "__init__" "RateEntry.__init__" zaY qar) (T:Txt K mg) (zaa:zmI P w K mg base 1 (cA K "Entry") "__init__" qab (zbB K)):zv P w K mg base 2 (cA K x) "__init__" qar (zcX K):=by
 exists S.ok,zk0,0
 all_goals obtain ⟨p,C,dx,d,x,rfl,e,hc,n1,n2,h⟩:=h
 ·rfl
 refine ⟨_,(zc (zam (zpy zaa (zf9 (v:=.ref (cA K "Entry")) rfl T.zii rfl) hr (za (pv 0) (za (pv 1) zd))))
  (zf (zks (pv 0) (pv 2) rfl))),?_⟩
 nofun
 refine ⟨p,C,dx,[],d,rfl,e,hc,n1,by decide,?_⟩
 nofun
 refine ⟨p,C,dx,_,rfl,zg,hc,n2,ydc (ycz 1) (by decide),?_⟩
 rw[zZ]
 exact h
def zjE (K:W.Frag):Sp:=fun vs H Q _=>L2.Ee5 fun p C dx d x=>L2.Aa6 (vs=[.ref p,.int d,.int x]) (H p=some (.ins C dx [])) (Cls K C) (zV K C "day") (zV K C "until") (Q .non (upd H p (.ins C dx [("day", .int d),("until", .int x)])))
theorem zon:zj qaz qaz (zh zd8):=by walk_at "sp"
theorem zpN (x:Str) (S:zp K (cA K x) "__init__" "Still.__init__" zd8 qaz) (T:Txt K mg) (zaa:zmI P w K mg base 1 (cA K "Entry") "__init__" qab (zbB K)):zv P w K mg base 2 (cA K x) "__init__" qaz (zjE K):=by
 exists S.ok,zon,0
 all_goals obtain ⟨p,C,dx,d,x,rfl,e,hc,n1,n2,h⟩:=h
 ·rfl
 refine ⟨_,(zc (zam (zpy zaa (zf9 (v:=.ref (cA K "Entry")) rfl T.zii rfl) hr (za (pv 0) (za (pv 1) zd))))
  (zf (zks (pv 0) (pv 2) rfl))),?_⟩
 nofun
 refine ⟨p,C,dx,[],d,rfl,e,hc,n1,by decide,?_⟩
 nofun
 refine ⟨p,C,dx,_,rfl,zg,hc,n2,ydc (ycz 1) (by decide),?_⟩
 rw[zZ]
 exact h
def zjU (K:W.Frag):Sp:=fun vs H Q _=>∃ i a b,vs=[.int i,.int a,.int b]/\(a<=i/\i<=b)/\Q (.bl true) H
theorem zp7:zj qba qba (zh zeS):=by walk_at "sp"
theorem zqu (S:Src K mg "is_within" zeS qba) (T:Txt K mg) (ziM:Def P w K mg base 1 "is_whole" ["thing"] (zlg K)):Def P w K mg base 2 "is_within" qba (zjU K):=by
 exists S.ok,zp7,0
 all_goals obtain ⟨i,a,b,rfl,⟨h1,h2⟩,h⟩:=h
 ·rfl
 refine ⟨_,(zf (zo (zl7 (zt ziM hr (za (pv 0) zd)) (zis (zuM zc4 zc4 (pv 1) (pv 0) (pv 2)))))),?_⟩
 nofun
 refine ⟨_, "int", rfl,⟨.int i,by simp[kinds]⟩,?_⟩
 nofun
 all_goals first
  | exact absurd rfl (by assumption)
  | (exfalso;ac_rfl)
  | (refine qb h ?_;simp[h1,h2])
def zjL (K:W.Frag):Sp:=fun vs H Q _=>L2.Ee4 fun p xs (es:List Er) w=>L2.Aa6 (vs=[.ref p,.str w]) (SqL K H p xs) (EL K H xs es) (es.length<=61) (AmW w) (∀ q H' ws r,H q=none->Same H H'->H' q=some (.lst ws)->zA K H' ws r->Sby.Tab r (prs w es)->Q (.ref q) H')
theorem ztw:zj qae qae (zh ziL):=by walk_at "sp"
theorem zug (S:Src K mg "sum_by" ziL qae) (T:Txt K mg) (zeh:Def P w K mg base 1 "summed" qak (zjQ K)) (zbe:∀ k:Ek,zv P w K mg base 1 (cA K k.cls) "word" qaa (zaD k K)):Def P w K mg base 2 "sum_by" qae (zjL K):=by
 exists S.ok,ztw,0
 all_goals obtain ⟨p,xs,es,ww,rfl,ep,hE,hl,hw,h⟩:=h
 ·rfl
 refine ⟨_,(zf (zo (zt zeh hr (za (zbl (ix:=[1]) ⟨rfl,by decide +kernel,rfl,by decide +kernel,rfl,(show (["entry", "word"]:List Str).Nodup by decide +kernel),by walk_at "cap", by walk_at "sub", by walk_at "has"⟩ (zG (pv 0)) (fun b=>(zu zaf (zf4 K zbe T.clE hr (pv 0)) (pv 1) (nomark _))) (fun b=>(zap (za (zcP K (pv 0) rfl) (za (zcP K (pv 0) rfl) zd))))) zd)))),?_⟩
 have sz:=sizeLine_eq
 nofun
 have xl:=hE.length
 refine ⟨⟨_,ep⟩,fun l nl=>?_⟩
 refine zb6 (zO ep) nl (by ac_rfl) es xl.symm (isW ww) (fun H' v e=>∃ t,v=.ref t/\H' t=some (.tup [.int e.2.1,.int e.2.2])) (fun v e H1 H2 s ⟨t,e1,e2⟩=>⟨t,e1,s _ _ e2⟩) (fun v e H1 ys zs hL ⟨t,e1,e2⟩=>⟨t,e1,by rw[zr (zau e2 hL (by intro z;cases z))];exact e2⟩) ?_ ?_ ?_
 ·rintro i x e H' Q' hx he sH hq
  obtain ⟨e',he',a,dx,rfl,hi⟩:=(hE.same sH).get hx
  obtain rfl:e'=e:=Option.some.inj (he'.symm.trans he)
  nofun
  refine ⟨e'.1,a,dx,_,rfl,hi,zhe _ _ _,a,rfl,?_⟩
  nofun
  exact hq
 ·rintro i x e H' Q' hx he fe sH hq
  obtain ⟨e',he',a,dx,rfl,hi⟩:=(hE.same sH).get hx
  obtain rfl:e'=e:=Option.some.inj (he'.symm.trans he)
  nofun
  refine ⟨a,_,dx,_,_,rfl,hi,T.clE _,T.zbo _,zgg _ _ _,?_⟩
  nofun
  refine ⟨a,_,dx,_,_,rfl,hi,T.clE _,T.zdV _,(amt hw fe).1,?_⟩
  nofun
  intro t nt
  exact hq _ _ (ze nt _) ⟨t,rfl,zg⟩
 ·rintro ys H' sH eL hL
  have hR:zA K H' ys (prs ww es):=znk hL
  nofun
  refine ⟨l,ys,prs ww es,rfl,eL,hR,?_,fun q H2 ws r nq s2 eq hr' tb=>?_⟩
  ·unfold prs
   rw[yab]
   exact yde (yaq _ _) hl
  ·exact h q H2 ws r (zM sH nq) (sH.trans s2) eq hr' tb
def zmm (K:W.Frag):Sp:=fun vs H Q _=>L2.Ee4 fun p xs (es:List Er) w=>L2.Aa5 (vs=[.ref p,.str w]) (SqL K H p xs) (EL K H xs es) (es.length<=61) (∀ q H' (ns:List Int),H q=none->Same H H'->H' q=some (.lst (ns.map V.int))->Days ns (dys w es)->Q (.ref q) H')
theorem zsp:zj qae qae (zh zg9):=by walk_at "sp"
theorem zty (S:Src K mg "days_of" zg9 qae) (T:Txt K mg) (zbe:∀ k:Ek,zv P w K mg base 1 (cA K k.cls) "word" qaa (zaD k K)):Def P w K mg base 2 "days_of" qae (zmm K):=by
 exists S.ok,zsp,0
 all_goals obtain ⟨p,xs,es,ww,rfl,ep,hE,hl,h⟩:=h
 ·rfl
 refine ⟨_,(zf (zo (zx (zcy rfl) rfl T.zbG PyProof.Rows.boot_sorted (za (zT (zfg rfl) rfl T.ziZ PyProof.Rows.boot_set (za (zbl (ix:=[1]) ⟨rfl,by decide +kernel,rfl,by decide +kernel,rfl,(show (["entry", "word"]:List Str).Nodup by decide +kernel),by walk_at "cap", by walk_at "sub", by walk_at "has"⟩ (zG (pv 0)) (fun b=>(zu zaf (zf4 K zbe T.clE hr (pv 0)) (pv 1) (nomark _))) (fun b=>(zcP K (pv 0) rfl))) zd)) zd)))),?_⟩
 have sz:=sizeLine_eq
 have xl:=hE.length
 nofun
 refine ⟨⟨_,ep⟩,fun l nl=>?_⟩
 refine zb6 (zO ep) nl (by ac_rfl) es xl.symm (isW ww) (fun _ v e=>v=.int e.2.1) (fun v e H1 H2 s q=>q) (fun v e H1 ys zs hL q=>q) ?_ ?_ ?_
 ·rintro i x e H' Q' hx he sH hq
  obtain ⟨e',he',a,dx,rfl,hi⟩:=(hE.same sH).get hx
  obtain rfl:e'=e:=Option.some.inj (he'.symm.trans he)
  nofun
  refine ⟨e'.1,a,dx,_,rfl,hi,zhe _ _ _,a,rfl,?_⟩
  nofun
  exact hq
 ·rintro i x e H' Q' hx he fe sH hq
  obtain ⟨e',he',a,dx,rfl,hi⟩:=(hE.same sH).get hx
  obtain rfl:e'=e:=Option.some.inj (he'.symm.trans he)
  nofun
  refine ⟨a,_,dx,_,_,rfl,hi,T.clE _,T.zbo _,zgg _ _ _,?_⟩
  exact hq _ _ (Same.refl _) rfl
 ·rintro ys H' sH eL hL
  have ey:ys=(dys ww es).map V.int:=by
   have:=hL.eqm (g:=fun e:Er=>V.int e.2.1)
   rw[this]
   unfold dys
   rw[ybf]
   rfl
  subst ey
  nofun
  refine ⟨l,dys ww es,rfl,SqL.of eL,ydc zrC (by ac_rfl),fun p1 H1 ms np1 s1 e1 nd mm ml=>?_⟩
  nofun
  refine ⟨p1,ms,rfl,e1,?_,fun q H2 ns nq s2 eq pm up=>?_⟩
  ·exact ydc (yde (zgl nd fun d hd=>(mm d).mp hd) zrC) (by ac_rfl)
  ·exact h q H2 ns (zM (sH.trans s1) nq) (sH.trans (s1.trans s2)) eq (Days.of nd mm pm up)
def zjA (K:W.Frag):Sp:=fun vs H Q _=>L2.Ee4 fun p xs (es:List Er) w=>L2.Aa7 (vs=[.ref p,.str w]) (SqL K H p xs) (EL K H xs es) (es.length<=61) (RtW w) ((∀ e∈es,0<=e.2.1)) (∀ q H' ws (r:List (Int × Int)),H q=none->Same H H'->H' q=some (.lst ws)->zA K H' ws r->Stills.TabOf (prs w es) r->r=(r.map (·.1)).map (fun d=>(d,Sums.valOf (prs w es) d))->r.length<=61->Q (.ref q) H')
theorem zoj:zj qae qae (zh zd4):=by walk_at "sp"
theorem zpl (S:Src K mg "rate_table" zd4 qae) (T:Txt K mg) (zji:Def P w K mg base 1 "table_of" qak (zlh K)) (zbe:∀ k:Ek,zv P w K mg base 1 (cA K k.cls) "word" qaa (zaD k K)):Def P w K mg base 2 "rate_table" qae (zjA K):=by
 exists S.ok,zoj,0
 all_goals obtain ⟨p,xs,es,ww,rfl,ep,hE,hl,hw,e0,h⟩:=h
 ·rfl
 refine ⟨_,(zf (zo (zt zji hr (za (zbl (ix:=[1]) ⟨rfl,by decide +kernel,rfl,by decide +kernel,rfl,(show (["entry", "word"]:List Str).Nodup by decide +kernel),by walk_at "cap", by walk_at "sub", by walk_at "has"⟩ (zG (pv 0)) (fun b=>(zu zaf (zf4 K zbe T.clE hr (pv 0)) (pv 1) (nomark _))) (fun b=>(zap (za (zcP K (pv 0) rfl) (za (zcP K (pv 0) rfl) zd))))) zd)))),?_⟩
 have sz:=sizeLine_eq
 nofun
 have xl:=hE.length
 have pl:=yde (ziC (w:=ww) (es:=es)) hl
 refine ⟨⟨_,ep⟩,fun l nl=>?_⟩
 refine zb6 (zO ep) nl (by ac_rfl) es xl.symm (isW ww) (fun H' v e=>∃ t,v=.ref t/\H' t=some (.tup [.int e.2.1,.int e.2.2])) (fun v e H1 H2 s ⟨t,e1,e2⟩=>⟨t,e1,s _ _ e2⟩) (fun v e H1 ys zs hL ⟨t,e1,e2⟩=>⟨t,e1,by rw[zr (zau e2 hL (by intro z;cases z))];exact e2⟩) ?_ ?_ ?_
 ·rintro i x e H' Q' hx he sH hq
  obtain ⟨e',he',a,dx,rfl,hi⟩:=(hE.same sH).get hx
  obtain rfl:e'=e:=Option.some.inj (he'.symm.trans he)
  nofun
  refine ⟨e'.1,a,dx,_,rfl,hi,zhe _ _ _,a,rfl,?_⟩
  nofun
  exact hq
 ·rintro i x e H' Q' hx he fe sH hq
  obtain ⟨e',he',a,dx,rfl,hi⟩:=(hE.same sH).get hx
  obtain rfl:e'=e:=Option.some.inj (he'.symm.trans he)
  nofun
  refine ⟨a,_,dx,_,_,rfl,hi,T.clE _,T.zbo _,zgg _ _ _,?_⟩
  nofun
  refine ⟨a,_,dx,_,_,rfl,hi,T.clE _,T.zlp _,rtl hw fe,?_⟩
  nofun
  intro t nt
  exact hq _ _ (ze nt _) ⟨t,rfl,zg⟩
 ·rintro ys H' sH eL hL
  have hR:zA K H' ys (prs ww es):=znk hL
  nofun
  refine ⟨l,ys,prs ww es,rfl,eL,hR,by ac_rfl,?_,fun q H2 ws r nq s2 eq hr' tb er rl=>?_⟩
  ·intro s hs
   obtain ⟨e,he,rfl⟩:=yah.mp hs
   exact e0 e (yal.mp he).1
  ·exact h q H2 ws r (zM sH nq) (sH.trans s2) eq hr' tb er (by ac_rfl)
def ziB (K:W.Frag):Sp:=fun vs H Q _=>∃ (p:Addr) (xs:List V) (es:List Er),vs=[.ref p]/\SqL K H p xs/\EL K H xs es/\es.length<=61 /\
 ∀ q H' ws (r:List (Int × Int)),H q=none->Same H H'->H' q=some (.lst ws)->zA K H' ws r->Spans.Joined r->(∀ d,Spans.Cov r d↔Spans.Cov (prs "still" es) d)->r.length<=61->Q (.ref q) H'
theorem zik:zj ["entries", "stills"] qbl (zh zc5):=by walk_at "sp"
theorem zn7 (S:Src K mg "still_spans" zc5 qbl) (T:Txt K mg) (zbe:∀ k:Ek,zv P w K mg base 1 (cA K k.cls) "word" qaa (zaD k K)) (zlv:Def P w K mg base 1 "joined" ["spans"] (znF K)):Def P w K mg base 2 "still_spans" qbl (ziB K):=by
 exists S.ok,zik,0
 all_goals obtain ⟨p,xs,es,rfl,ep,hE,hl,h⟩:=h
 ·rfl
 refine ⟨_,(zc (zj1 (i:=1) zik.nd rfl rfl (ix:=[]) ⟨rfl,by decide +kernel,rfl,by decide +kernel,rfl,(show (["entry"]:List Str).Nodup by decide +kernel),by walk_at "cap", by walk_at "sub", by walk_at "has"⟩ (zG (pv 0)) (fun b=>(zu zaf (zf4 K zbe T.clE hr (pv 0)) zy (nomark _))) (fun b=>(pv 0)))
  (zf (zo (zt zlv hr (za (zbl (ix:=[]) ⟨rfl,by decide +kernel,rfl,by decide +kernel,rfl,(show (["entry"]:List Str).Nodup by decide +kernel),by walk_at "cap", by walk_at "sub", by walk_at "has"⟩ (zG (pv 1)) (fun b=>(zu ze3 (zcP K (pv 0) rfl) (zcP K (pv 0) rfl) (nomark _))) (fun b=>(zap (za (zcP K (pv 0) rfl) (za (zcP K (pv 0) rfl) zd))))) zd))))),?_⟩
 have sz:=sizeLine_eq
 nofun
 have xl:=hE.length
 refine ⟨⟨_,ep⟩,fun l nl=>?_⟩
 refine zb6 (zO ep) nl (by ac_rfl) es xl.symm (isW "still") (fun H' v e=>∃ a dx,v=.ref a/\zkD K H' a dx e.1 e.2.1 e.2.2) (fun v e H1 H2 s ⟨t,dx,e1,e2⟩=>⟨t,dx,e1,s _ _ e2⟩) (fun v e H1 ys zs hL ⟨t,dx,e1,e2⟩=>⟨t,dx,e1,by rw[zkD,zr (zau e2 hL (by intro z;cases z))];exact e2⟩) ?_ ?_ ?_
 ·rintro i x e H' Q' hx he sH hq
  obtain ⟨e',he',a,dx,rfl,hi⟩:=(hE.same sH).get hx
  obtain rfl:e'=e:=Option.some.inj (he'.symm.trans he)
  nofun
  refine ⟨e'.1,a,dx,_,rfl,hi,zhe _ _ _,a,rfl,?_⟩
  nofun
  exact hq
 ·rintro i x e H' Q' hx he fe sH hq
  obtain ⟨e',he',a,dx,rfl,hi⟩:=(hE.same sH).get hx
  obtain rfl:e'=e:=Option.some.inj (he'.symm.trans he)
  nofun
  exact hq _ _ (Same.refl _) ⟨a,dx,rfl,hi⟩
 ·rintro ys H1 s1 eL hL
  have hE1:EL K H1 ys (es.filter (isW "still")):=hL
  have yl:=hE1.length
  have fl:=yaq (isW "still") es
  nofun
  refine ⟨⟨_,SqL.of eL⟩,fun l2 nl2=>?_⟩
  have isS:∀ {i:Nat} {e:Er},(es.filter (isW "still"))[i]?=some e->isW "still" e=true:=fun {i e} he=>(yal.mp (yae he)).2
  refine zb6 (zO (SqL.of eL)) nl2 (by ac_rfl) (es.filter (isW "still")) yl.symm (fun e:Er=>decide (e.2.1<e.2.2)) (fun H' v e=>∃ t,v=.ref t/\H' t=some (.tup [.int e.2.1,.int e.2.2])) (fun v e H1 H2 s ⟨t,e1,e2⟩=>⟨t,e1,s _ _ e2⟩) (fun v e H1 ys zs hL ⟨t,e1,e2⟩=>⟨t,e1,by rw[zr (zau e2 hL (by intro z;cases z))];exact e2⟩) ?_ ?_ ?_
  ·rintro i x e H' Q' hx he sH hq
   obtain ⟨e',he',a,dx,rfl,hi⟩:=(hE1.same sH).get hx
   obtain rfl:e'=e:=Option.some.inj (he'.symm.trans he)
   nofun
   refine ⟨a,_,dx,_,_,rfl,hi,T.clE _,T.zbo _,zgg _ _ _,?_⟩
   nofun
   refine ⟨a,_,dx,_,_,rfl,hi,T.clE _,T.zj9 _,stl (isS he),?_⟩
   nofun
   exact hq
  ·rintro i x e H' Q' hx he fe sH hq
   obtain ⟨e',he',a,dx,rfl,hi⟩:=(hE1.same sH).get hx
   obtain rfl:e'=e:=Option.some.inj (he'.symm.trans he)
   nofun
   refine ⟨a,_,dx,_,_,rfl,hi,T.clE _,T.zbo _,zgg _ _ _,?_⟩
   nofun
   refine ⟨a,_,dx,_,_,rfl,hi,T.clE _,T.zj9 _,stl (isS he),?_⟩
   nofun
   intro t nt
   exact hq _ _ (ze nt _) ⟨t,rfl,zg⟩
  ·rintro zs H2 s2 eL2 hL2
   have hR:zA K H2 zs (((es.filter (isW "still")).filter fun e:Er=>decide (e.2.1<e.2.2)).map (·.2)):=znk hL2
   have em:((es.filter (isW "still")).filter fun e:Er=>decide (e.2.1<e.2.2)).map (·.2)=(prs "still" es).filter fun s=>decide (s.1<s.2):=by
    unfold prs
    rw[ycy]
    rfl
   rw[em] at hR
   have pl:=yaq (fun s:Int × Int=>decide (s.1<s.2)) (prs "still" es)
   have pl2:=ziC (w:="still") (es:=es)
   nofun
   refine ⟨l2,zs,_,rfl,SqL.of eL2,hR,by ac_rfl,fun s hs=>?_,fun q ws r H3 s3 nq eq rR J cv rl=>?_⟩
   ·simpa using (yal.mp hs).2
   ·exact h q H3 ws r (zM (s1.trans s2) nq) (s1.trans (s2.trans s3)) eq rR J (fun d=>(cv d).trans (zup _ d)) (by ac_rfl)
def zk8 (K:W.Frag):Sp:=fun vs H Q _=>∃ c b wd,vs=[.int c,.int b,.int wd]/\(0<=b/\b<=999800)/\(1<=wd/\wd<=200)/\∀ r k d x H',Same H H'->H r=none->H' r=some (.tup (zb7 k d x))->k≠.base->(b<=d/\d<b+200)->zwS k d x->Q (.ref r) H'
theorem zcZ:zj ["_law_cell", "_law_base", "_law_wide", "_law_xs", "_law_day", "_law_words", "_law_word"] qbm (zh zf1):=by walk_at "sp"
theorem zrW (S:Src K mg "_law_row" zf1 qbm) (T:Txt K mg) (zaR:Def P w K mg base 1 "_law_draws" qav (zc9 K)) (zgP:Def P w K mg base 1 "_law_value" qbg (zjr K)):Def P w K mg base 2 "_law_row" qbm (zk8 K):=by
 exists S.ok,zcZ,0
 all_goals obtain ⟨c,b,wd,rfl,⟨b0,b1⟩,⟨w0,w1⟩,h⟩:=h
 ·rfl
 refine ⟨_,(zc (zk (i:=3) zcZ.nd rfl (by walk_at "lc") (zt zaR hr (za (pv 0) (za zb zd))))
  (zc (zk (i:=4) zcZ.nd rfl (by walk_at "lc") (zi zz (pv 1) (zi zL (zq zB (pv 3) zb (fun _ _=>rfl)) (zq zB (zat (za zb (za zb (za (pv 2) zd)))) (zi zL (zq zB (pv 3) zb (fun _ _=>rfl)) zb) (fun _ _=>rfl)))))
  (zc (zk (i:=5) zcZ.nd rfl (by walk_at "lc") (zat (za zy (za zy (za zy (za zy (za zy (za zy (za zy (za zy (za zy (za zy (za zy (za zy (za zy zd)))))))))))))))
  (zc (zk (i:=6) zcZ.nd rfl (by walk_at "lc") (zq zB (pv 5) (zi zL (zq zB (pv 3) zb (fun _ _=>rfl)) zb) (fun _ _=>rfl)))
  (zf (zo (zap (za (pv 6) (za (pv 4) (za (zt zgP hr (za (pv 6) (za (pv 4) (za (pv 3) zd)))) zd)))))))))),?_⟩
 have sz:=sizeLine_eq
 nofun
 intro p ns H1 s1 np ep nl nn
 have nl8:ns.length=8:=by ac_rfl
 obtain ⟨n0,n1,n2,n3,n4,n5,n6,n7,rfl⟩:=ztb nl8
 have p0:=nn n0 (by simp)
 have p1:=nn n1 (by simp)
 have p2:=nn n2 (by simp)
 have hp:SqL K H1 p (List.map V.int [n0,n1,n2,n3,n4,n5,n6,n7]):=SqL.of ep
 nofun
 refine ⟨p,_,_,_,rfl,rfl,hp,rfl,?_⟩
 nofun
 intro l2 m2
 have s2:=ze m2 (.lst [.int 4,.int 30,.int wd])
 have hp2:=s2.seq hp
 have z2:SqL K (upd H1 l2 (.lst [.int 4,.int 30,.int wd])) l2 [.int 4,.int 30,.int wd]:=SqL.of zg
 generalize upd H1 l2 (.lst [.int 4,.int 30,.int wd])=H2 at s2 hp2 z2 ⊢
 have a0:=ydy n1 (show (3:Int)≠0 by decide)
 have a1:=ydx n1 (show (0:Int)<3 by decide)
 nofun
 refine ⟨p,_,_,_,rfl,rfl,hp2,rfl,?_⟩
 nofun
 obtain ⟨m,am,hm⟩:=zoV (a:=4) (b:=30) (c:=wd) a0 a1
 refine ⟨l2,_,_,_,rfl,rfl,z2,am,?_⟩
 have c0:=ydy n0 (show m≠0 by ac_rfl)
 have c1:=ydx n0 (show 0<m by ac_rfl)
 nofun
 intro l3 m3
 have s3:=ze m3 (.lst [.str "out", .str "pay", .str "due", .str "rate", .str "fee", .str "pay", .str "out", .str "late", .str "turn", .str "due", .str "still", .str "pay", .str "rate"])
 have hp3:=s3.seq hp2
 have z3:SqL K (upd H2 l3 (.lst [.str "out", .str "pay", .str "due", .str "rate", .str "fee", .str "pay", .str "out", .str "late", .str "turn", .str "due", .str "still", .str "pay", .str "rate"])) l3 [.str "out", .str "pay", .str "due", .str "rate", .str "fee", .str "pay", .str "out", .str "late", .str "turn", .str "due", .str "still", .str "pay", .str "rate"]:=SqL.of zg
 generalize upd H2 l3 (.lst [.str "out", .str "pay", .str "due", .str "rate", .str "fee", .str "pay", .str "out", .str "late", .str "turn", .str "due", .str "still", .str "pay", .str "rate"])=H3 at s3 hp3 z3 ⊢
 have e0:=ydy n2 (show (13:Int)≠0 by decide)
 have e1:=ydx n2 (show (0:Int)<13 by decide)
 nofun
 refine ⟨p,_,_,_,rfl,rfl,hp3,rfl,?_⟩
 nofun
 obtain ⟨v,hv,hw⟩:=ziA (xs:=[.str "out", .str "pay", .str "due", .str "rate", .str "fee", .str "pay", .str "out", .str "late", .str "turn", .str "due", .str "still", .str "pay", .str "rate"]) e0 (by simpa using e1)
 obtain ⟨k,rfl,hk⟩:=((zay ⟨.out,rfl,by intro z;cases z⟩ (zay ⟨.pay,rfl,by intro z;cases z⟩ (zay ⟨.due,rfl,by intro z;cases z⟩ (zay ⟨.rate,rfl,by intro z;cases z⟩ (zay ⟨.fee,rfl,by intro z;cases z⟩ (zay ⟨.pay,rfl,by intro z;cases z⟩ (zay ⟨.out,rfl,by intro z;cases z⟩ (zay ⟨.late,rfl,by intro z;cases z⟩ (zay ⟨.turn,rfl,by intro z;cases z⟩ (zay ⟨.due,rfl,by intro z;cases z⟩ (zay ⟨.still,rfl,by intro z;cases z⟩ (zay ⟨.pay,rfl,by intro z;cases z⟩ (zay ⟨.rate,rfl,by intro z;cases z⟩ zph))))))))))))):∀ v∈([.str "out", .str "pay", .str "due", .str "rate", .str "fee", .str "pay", .str "out", .str "late", .str "turn", .str "due", .str "still", .str "pay", .str "rate"]:List V),∃ k:Ek,v=.str k.word/\k≠.base) v hw
 refine ⟨l3,_,_,_,rfl,rfl,z3,hv,?_⟩
 nofun
 refine ⟨k,_,p,_,rfl,hp3,nl8,nn,⟨by ac_rfl,by ac_rfl⟩,hk,fun x hx=>?_⟩
 nofun
 intro r nr
 exact h r k _ x _ (s1.trans (s2.trans (s3.trans (ze nr _)))) (zM (s1.trans (s2.trans s3)) nr) zg hk ⟨by ac_rfl,by ac_rfl⟩ hx
noncomputable def zaO (ns:List Int):Int:=(fun c:Int=>if c % 5=4 then c / 5 % 367 else if c % 5=3 then 30 else if c % 5=2 then 3 else 0) (cellAt ns 0 / 4)
theorem zjg (ns:List Int):0<=zaO ns/\zaO ns<=366:=by
 unfold zaO
 generalize cellAt ns 0 / 4=c
 dsimp only
 split
 ·omega
 ·split
  ·omega
  ·split <;> omega
def zc2 (K:W.Frag):Sp:=fun vs H Q _=>∃ (p:Addr) (ns:List Int),vs=[.ref p]/\SqL K H p (ns.map V.int)/\Q (.int (zaO ns)) H
theorem zjv:zj ["_law_script", "_law_cell"] qad (zh zdX):=by walk_at "sp"
theorem zp2 (S:Src K mg "_law_grace" zdX qad) (T:Txt K mg) (zJ:Def P w K mg base 1 "_law_cell_at" qaq (zbc K)):Def P w K mg base 2 "_law_grace" qad (zc2 K):=by
 exists S.okF,zjv,0
 all_goals obtain ⟨p,ns,rfl,hp,h⟩:=h
 ·rfl
 refine ⟨_,(zc (zk (i:=1) zjv.nd rfl (by walk_at "lc") (zi zba (zt zJ hr (za (pv 0) (za zb zd))) zb))
  (zf (zo (zq zB (zat (za zb (za zb (za zb (za zb (za (zi zL (zi zba (pv 1) zb) zb) zd)))))) (zi zL (pv 1) zb) (fun _ _=>rfl))))),?_⟩
 nofun
 refine ⟨p,ns,0,rfl,hp,?_⟩
 nofun
 intro q nq
 have c0:=ydy (cellAt ns 0 / 4) (show (5:Int)≠0 by decide)
 have c1:=ydx (cellAt ns 0 / 4) (show (0:Int)<5 by decide)
 nofun
 have at_:atI [V.int 0,V.int 0,V.int 3,V.int 30,V.int (cellAt ns 0 / 4 / 5 % 367)] (cellAt ns 0 / 4 % 5)=some (.int (zaO ns)):=by
  unfold zaO
  generalize cellAt ns 0 / 4=c at c0 c1 ⊢
  dsimp only
  rcases (show c % 5=0\/c % 5=1\/c % 5=2\/c % 5=3\/c % 5=4 by ac_rfl) with e | e | e | e | e <;> rw[e] <;> rfl
 refine ⟨q,_,_,_,rfl,rfl,SqL.of zg,at_,?_⟩
 exact ⟨ze nq _,h⟩
noncomputable def kindOf (ns:List Int):Kd:=(fun c:Int=>if c=0 then .plain else if c=1 then .bank else if c=2 then .thirty else .exact) (cellAt ns 0 % 4)
def zjF (K:W.Frag):Sp:=fun vs H Q _=>∃ (p:Addr) (ns:List Int),vs=[.ref p]/\SqL K H p (ns.map V.int)/\∀ c H',H c=none->Same H H'->zb5 K H' c (kindOf ns)->Q (.ref c) H'
theorem znT:zj qad qad (zh zdD):=by walk_at "sp"
theorem zoQ (S:Src K mg "_law_count" zdD qad) (T:Txt K mg) (zJ:Def P w K mg base 1 "_law_cell_at" qaq (zbc K)):Def P w K mg base 2 "_law_count" qad (zjF K):=by
 exists S.ok,znT,0
 all_goals obtain ⟨p,ns,rfl,hp,h⟩:=h
 ·rfl
 refine ⟨_,(zf (zo (zq zB (zat (za (zkM (T.mk0 .plain) T.zkK) (za (zkM (T.mk0 .bank) T.zoW) (za (zkM (T.mk0 .thirty) T.zln) (za (zkM (T.mk0 .exact) T.zmH) zd))))) (zi zL (zt zJ hr (za (pv 0) (za zb zd))) zb) (fun _ _=>rfl)))),?_⟩
 have c0:=ydy (cellAt ns 0) (show (4:Int)≠0 by decide)
 have c1:=ydx (cellAt ns 0) (show (0:Int)<4 by decide)
 have new:∀ (kd:Kd) (H1:Hp) (x dx:Addr),H1 x=none->H1 dx=none->dx≠x->Same H1 (upd (upd H1 dx (.own x)) x (.ins (cA K kd.cls) dx []))/\zb5 K (upd (upd H1 dx (.own x)) x (.ins (cA K kd.cls) dx [])) x kd:=fun kd H1 x dx nx nd ne =>
  ⟨(ze nd _).trans (ze (by rw[zr ne.symm];exact nx) _),dx,zg⟩
 nofun
 intro x1 d1 nx1 nd1 ne1
 obtain ⟨s1,i1⟩:=new .plain _ x1 d1 nx1 nd1 ne1
 generalize upd (upd H d1 (.own x1)) x1 (.ins (cA K Kd.plain.cls) d1 [])=H1 at s1 i1 ⊢
 nofun
 intro x2 d2 nx2 nd2 ne2
 obtain ⟨s2,i2⟩:=new .bank _ x2 d2 nx2 nd2 ne2
 generalize upd (upd H1 d2 (.own x2)) x2 (.ins (cA K Kd.bank.cls) d2 [])=H2 at s2 i2 ⊢
 nofun
 intro x3 d3 nx3 nd3 ne3
 obtain ⟨s3,i3⟩:=new .thirty _ x3 d3 nx3 nd3 ne3
 generalize upd (upd H2 d3 (.own x3)) x3 (.ins (cA K Kd.thirty.cls) d3 [])=H3 at s3 i3 ⊢
 nofun
 intro x4 d4 nx4 nd4 ne4
 obtain ⟨s4,i4⟩:=new .exact _ x4 d4 nx4 nd4 ne4
 generalize upd (upd H3 d4 (.own x4)) x4 (.ins (cA K Kd.exact.cls) d4 [])=H4 at s4 i4 ⊢
 nofun
 intro q nq
 have s5:=ze nq (.lst [.ref x1,.ref x2,.ref x3,.ref x4])
 have sA:=s1.trans (s2.trans (s3.trans (s4.trans s5)))
 nofun
 refine ⟨p,ns,0,rfl,sA.seq hp,?_⟩
 nofun
 have:∃ x,atI [V.ref x1,V.ref x2,V.ref x3,V.ref x4] (cellAt ns 0 % 4)=some (.ref x)/\zb5 K H4 x (kindOf ns)/\H x=none:=by
  unfold kindOf
  dsimp only
  rcases (show cellAt ns 0 % 4=0\/cellAt ns 0 % 4=1\/cellAt ns 0 % 4=2\/cellAt ns 0 % 4=3 by ac_rfl) with e | e | e | e <;> rw[e]
  ·exact ⟨x1,rfl,i1.same (s2.trans (s3.trans s4)),nx1⟩
  ·exact ⟨x2,rfl,i2.same (s3.trans s4),zM s1 nx2⟩
  ·exact ⟨x3,rfl,i3.same s4,zM (s1.trans s2) nx3⟩
  ·exact ⟨x4,rfl,i4,zM (s1.trans (s2.trans s3)) nx4⟩
 obtain ⟨x,ax,ix,nx⟩:=this
 refine ⟨q,_,_,_,rfl,rfl,SqL.of zg,ax,?_⟩
 exact h x _ nx sA (ix.same s5)
theorem zwC {y m:Int} (h1:1<=m) (h2:m<=12):atI [V.int 31,.int (28+Cal.lp y),.int 31,.int 30,.int 31,.int 30,.int 31,.int 31,.int 30,.int 31,.int 30,.int 31] (m-1)=some (.int (Cal.mlen y m)):=by
 obtain ⟨k,rfl⟩:∃ k:Nat,m=k:=⟨m.toNat,by omega⟩
 match k,h1,h2 with
 | 1,_,_ | 2,_,_ | 3,_,_ | 4,_,_ | 5,_,_ | 6,_,_ | 7,_,_ | 8,_,_ | 9,_,_ | 10,_,_ | 11,_,_ | 12,_,_=>rfl
def zcx (K:W.Frag):Sp:=fun vs H Q _=>∃ y m,vs=[.int y,.int m]/\1<=m/\m<=12/\Q (.int (Cal.mlen y m)) H
theorem zkd:zj qaw qaw (zh zbL):=by walk_at "sp"
theorem zkZ (S:Src K mg "_law_month_size" zbL qaw) (T:Txt K mg) (zaQ:Def P w K mg base 1 "_law_leap" qas (zdG K)):Def P w K mg base 2 "_law_month_size" qaw (zcx K):=by
 exists S.okF,zkd,0
 all_goals obtain ⟨y,m,rfl,h1,h2,h⟩:=h
 ·rfl
 refine ⟨_,(zf (zo (zq zB (zat (za zb (za (zi zz zb (zT zfn rfl T.zhq PyProof.Rows.boot_int (za (zt zaQ hr (za (pv 0) zd)) zd))) (za zb (za zb (za zb (za zb (za zb (za zb (za zb (za zb (za zb (za zb zd))))))))))))) (zi zak (pv 1) zb) (fun _ _=>rfl)))),?_⟩
 nofun
 refine .inr ⟨_,rfl,?_⟩
 nofun
 intro p np
 nofun
 refine ⟨p,_,_,_,rfl,rfl,SqL.of zg,zwC (y:=y) h1 h2,?_⟩
 exact ⟨ze np _,h⟩
def zgE (K:W.Frag):Sp:=fun vs H Q _=>∃ (p:Addr) (ns:List Int),vs=[.ref p]/\SqL K H p (ns.map V.int)/\Q (.int (10000*yr (kindOf ns))) H
theorem zoF:zj qad qad (zh zeM):=by walk_at "sp"
theorem zqJ (S:Src K mg "_law_unit" zeM qad) (T:Txt K mg) (zJ:Def P w K mg base 1 "_law_cell_at" qaq (zbc K)):Def P w K mg base 2 "_law_unit" qad (zgE K):=by
 exists S.okF,zoF,0
 all_goals obtain ⟨p,ns,rfl,hp,h⟩:=h
 ·rfl
 refine ⟨_,(zf (zo (zi zaj (zbb (v:=10000) (by decide +kernel) ⟨by decide,by decide,by decide⟩) (zq zB (zat (za zb (za zb (za zb (za zb zd))))) (zi zL (zt zJ hr (za (pv 0) (za zb zd))) zb) (fun _ _=>rfl))))),?_⟩
 have c0:=ydy (cellAt ns 0) (show (4:Int)≠0 by decide)
 have c1:=ydx (cellAt ns 0) (show (0:Int)<4 by decide)
 have y0:0<=yr (kindOf ns)/\yr (kindOf ns)<=133590:=by cases kindOf ns <;> decide
 nofun
 intro q nq
 have s1:=ze nq (.lst [.int 365,.int 360,.int 360,.int 133590])
 nofun
 refine ⟨p,ns,0,rfl,s1.seq hp,?_⟩
 nofun
 have at_:atI [V.int 365,V.int 360,V.int 360,V.int 133590] (cellAt ns 0 % 4)=some (.int (yr (kindOf ns))):=by
  unfold kindOf
  dsimp only
  rcases (show cellAt ns 0 % 4=0\/cellAt ns 0 % 4=1\/cellAt ns 0 % 4=2\/cellAt ns 0 % 4=3 by ac_rfl) with e | e | e | e <;> rw[e] <;> rfl
 refine ⟨q,_,_,_,rfl,rfl,SqL.of zg,at_,?_⟩
 nofun
 first | exact ⟨s1,h⟩ | exact h
def zfU (P:Program) (w:World) (K:W.Frag):Sp:=fun vs H Q _=>∃ (q:Addr) (rs:List V) (es:List Er),vs=[.ref q]/\H q=some (.lst rs)/\RL3 H rs es/\es.length<=61 /\
 ∀ d (l:List (Int × V)) H',H d=none->Same H H'->H' d=some (zbi P w d l)->zdo H' es es l/\l.length<=es.length->Q (.ref d) H'
theorem zaA:zj ["_law_rows", "_law_sums_here", "_law_word", "_law_turns", "_law_day", "_law_value_here", "_law_found"] qbn (zh zb3):=by walk_at "sp"
theorem zlC (S:Src K mg "_law_all_deeds" zb3 qbn) (T:Txt K mg) (zhI:Def P w K mg base 1 "_law_sums" qbh (zkj P w K)):Def P w K mg base 2 "_law_all_deeds" qbn (zfU P w K):=by
 exists S.ok,zaA,0
 all_goals obtain ⟨q,rs,es,rfl,hq,hR,hl,h⟩:=h
 ·rfl
 refine ⟨_,(zc (zrz (i:=1) zaA.nd rfl rfl (ix:=[0]) ⟨rfl,by decide +kernel,rfl,by decide +kernel,rfl,(show (["_law_word", "_law_rows"]:List Str).Nodup by decide +kernel),by walk_at "cap", by walk_at "sub", by walk_at "has"⟩ (zG (zat (za zy (za zy (za zy zd))))) (fun b=>(zt zhI hr (za (pv 1) (za (pv 0) zd)))))
  (zc (zl4 (i:=3) zaA.nd rfl rfl (ix:=[]) ⟨rfl,by decide +kernel,rfl,by decide +kernel,rfl,rfl,rfl,  (show (["_law_word", "_law_day", "_law_value_here"]:List Str).Nodup by decide +kernel),by walk_at "cap", by walk_at "sub", by walk_at "has"⟩ (zG (pv 0)) (fun b=>(zu zaf (pv 0) zy (nomark _))) (fun b=>(pv 1)))
  (zc (zk (i:=6) zaA.nd rfl (by walk_at "lc") zu5)
  (zc (zbQ PassesOwn.never rfl (zG (pv 0)) (zch rfl (zH (zC (i:=2) zaA.nd rfl (by walk_at "lc")) (zH (zC (i:=4) zaA.nd rfl (by walk_at "lc")) (zH (zC (i:=5) zaA.nd rfl (by walk_at "lc")) zbz))))
  (zf (zae (zu zhm (pv 2) (zap (za zy (za zy (za zy (za zy zd))))) (by with_unfolding_all rfl))
  (zf (zv0 (pv 6) (pv 4) (zap (za (zkN (zq zB (pv 1) zb (fun _ _=>rfl)) (pv 4) zb) (za (zkN (zq zB (pv 1) zb (fun _ _=>rfl)) (pv 4) zb) (za (zT zt2 rfl T.zhq PyProof.Rows.boot_int (za (zdz zhm (pv 4) (pv 3) (by with_unfolding_all rfl)) zd)) (za (zkN (zq zB (pv 1) zb (fun _ _=>rfl)) (pv 4) zb) zd)))))))
   zS)))
  (zf (zo (pv 6))))))),?_⟩
 have sz:=sizeLine_eq
 have xl:=hR.length
 nofun
 intro pw npw
 have s1:=ze npw (.lst [.str "out", .str "fee", .str "pay"])
 have e1:=zD (.lst [.str "out", .str "fee", .str "pay"]) npw
 generalize upd H pw (.lst [.str "out", .str "fee", .str "pay"])=H1 at s1 e1 ⊢
 refine ⟨pw,rfl,⟨_,SqL.of e1⟩,fun l1 nl=>?_⟩
 refine comp_map (zO (SqL.of e1)) nl (by rw[sz];decide) ([("out" : Str), "fee", "pay"]:List Str) rfl (fun H' v ww=>∃ (d:Addr) (acc:List (Int × Int)) (ep:Nat),v=.ref d/\H' d=some (zcq P w d acc ep)/\Sby.Tot acc (prs ww es)) (fun v e H1 H2 s ⟨d,acc,ep,a1,a2,a3⟩=>⟨d,acc,ep,a1,s _ _ a2,a3⟩) (fun v e H1 ys zs hL ⟨d,acc,ep,a1,a2,a3⟩=>⟨d,acc,ep,a1,by rw[zr (zau a2 hL (by intro z;unfold zcq at z;cases z))];exact a2,a3⟩) ?_ ?_
 ·rintro i x ww H' Q' hx hd sH hq'
  have ex:x=.str ww:=by
   have:([V.str "out", V.str "fee", V.str "pay"]:List V)=([("out" : Str), "fee", "pay"]:List Str).map V.str:=rfl
   rw[this,yaj,hd] at hx
   exact (Option.some.inj hx).symm
  subst ex
  have s1H:=s1.trans sH
  nofun
  refine ⟨q,rs,es,ww,rfl,SqL.of (s1H _ _ hq),hR.same s1H,by ac_rfl,fun d acc ep H2 nd s2 ed tt=>?_⟩
  exact hq' _ _ s2 ⟨d,acc,ep,rfl,ed,tt⟩
 rintro ys H2 s2 eS hL
 cases hL with
 | cons k1 hL =>
 cases hL with
 | cons k2 hL =>
 cases hL with
 | cons k3 hL =>
 cases hL
 obtain ⟨da,aa,ea,rfl,ga,ta⟩:=k1
 obtain ⟨db,ab,eb,rfl,gb,tb⟩:=k2
 obtain ⟨dc,ac,ec,rfl,gc,tc⟩:=k3
 have s12:=s1.trans s2
 have hR2:=hR.same s12
 have hq2:=s12 _ _ hq
 nofun
 refine ⟨⟨_,SqL.of hq2⟩,fun lt nlt=>?_⟩
 refine zfh (zO (SqL.of hq2)) nlt (by ac_rfl) es xl.symm (fun e=>(V.str e.1.word,V.int e.2.1,V.int e.2.2)) (fun i x e hx he=>?_) (isW "turn") (fun H' v e=>v=.int e.2.1) (fun v e H1 H2 s z=>z) (fun v e H1 ys zs hL z=>z) ?_ ?_ ?_
 ·obtain ⟨e',he',t,rfl,ht⟩:=hR2.get hx
  obtain rfl:e'=e:=Option.some.inj (he'.symm.trans he)
  exact ⟨t,rfl,ht⟩
 ·rintro e H' Q' em sH hq'
  nofun
  exact hq' _ (Same.refl _)
 ·rintro e H' Q' em fe sH hq'
  nofun
  exact hq' _ _ (Same.refl _) rfl
 rintro yt H3 s3 eT hT
 obtain rfl:yt=(dys "turn" es).map V.int:=by
  unfold dys
  clear eT
  revert hT
  generalize es.filter (isW "turn")=fs
  intro hT
  induction hT with
  | nil=>rfl
  | cons h _ ih=>rw[h,ih];rfl
 nofun
 intro d nd
 have s4:=ze nd (zbi P w d [])
 have ed:=zD (zbi P w d []) nd
 have s14:=s12.trans (s3.trans s4)
 have ndH:=zM (s12.trans s3) nd
 have eS4:=(s3.trans s4) _ _ eS
 have ga4:=(s3.trans s4) _ _ ga
 have gb4:=(s3.trans s4) _ _ gb
 have gc4:=(s3.trans s4) _ _ gc
 have eT4:=s4 _ _ eT
 have hq4:=s14 _ _ hq
 have nd4:H3 d=none:=nd
 nofun
 refine ⟨⟨_,SqL.of hq4⟩,zbH (xs:=rs) (fun i σ H'=>L2.Ee4 fun (l:List (Int × V)) (z1 z2 z3:Option V)=>L2.Aa3 ((Same H3 H'/\H' d=some (zbi P w d l)/\l.length<=i)) (zdo H' es (es.take i) l) (σ=[some (.ref q),some (.ref l1),z1,some (.ref lt),z2,z3,some (.ref d)]))
  ⟨[],_,_,_,⟨s4,ed,ycz _⟩,fun k=>.inr ⟨fun ⟨e,he,_⟩=>by simp at he,rfl⟩,rfl⟩ ?_ ?_ ?_⟩
 ·rintro i σ H' _ ⟨l,z1,z2,z3,⟨sH,_⟩,_⟩
  exact SqL.of (sH _ _ (s3 _ _ hq2))
 ·rintro i v σ H' hv ⟨l,z1,z2,z3,⟨sH,eD,ll⟩,al,rfl⟩
  have s2H:=s3.trans sH
  obtain ⟨e,he,t,rfl,ht⟩:=(hR2.same s2H).get hv
  have tk:es.take (i+1)=es.take i++[e]:=by rw[ybb,he];rfl
  have il:i<es.length:=(yac.mp he).1
  refine ⟨t,_,rfl,SqT.of ht,rfl,?_⟩
  nofun
  intro u nu
  have su:=ze nu (.tup [.str "out", .str "fee", .str "turn", .str "pay"])
  have eu:=zD (.tup [.str "out", .str "fee", .str "turn", .str "pay"]) nu
  generalize upd H' u (.tup [.str "out", .str "fee", .str "turn", .str "pay"])=H5 at su eu ⊢
  refine ⟨u,_,rfl,.inr (SqT.of eu),rfl,rfl,?_⟩
  refine ⟨inV (.str e.1.word) [.str "out", .str "fee", .str "turn", .str "pay"],rfl,?_⟩
  have sA:=sH.trans su
  cases c:inV (.str e.1.word) [.str "out", .str "fee", .str "turn", .str "pay"] with
  | false =>
   nofun
   exact ⟨l,_,_,_,⟨sA,su _ _ eD,by ac_rfl⟩,by rw[tk];exact (al.same su).skip c,rfl⟩
  | true =>
   have eS5:=(s3.trans sA) _ _ eS
   have ga5:=(s3.trans sA) _ _ ga
   have gb5:=(s3.trans sA) _ _ gb
   have gc5:=(s3.trans sA) _ _ gc
   have eT5:=sA _ _ eT
   have eD5:=su _ _ eD
   nofun
   refine ⟨l1,_,_,_,rfl,rfl,SqL.of eS5,rfl,?_⟩
   refine ⟨da,aa,ea,rfl,ga5,?_⟩
   nofun
   refine ⟨ga5,?_⟩
   rw[ta.look]
   nofun
   refine ⟨l1,_,_,_,rfl,rfl,SqL.of eS5,rfl,?_⟩
   refine ⟨db,ab,eb,rfl,gb5,?_⟩
   nofun
   refine ⟨gb5,?_⟩
   rw[tb.look]
   nofun
   refine ⟨lt,_,rfl,.inl (SqL.of eT5),rfl,zuc _,?_⟩
   nofun
   intro tn tn1 tn2
   have etn:tn=if e.2.1∈dys "turn" es then 1 else 0:=by
    rw[tn1]
    show (if inV (.int e.2.1) ((dys "turn" es).map V.int)=true then (1:Int) else 0)=_
    rw[zrt]
    by_cases z:e.2.1∈dys "turn" es
    ·rw[if_pos z,if_pos (decide_eq_true z)]
    ·rw[if_neg z,if_neg (by simpa using z)]
   nofun
   refine ⟨l1,_,_,_,rfl,rfl,SqL.of eS5,rfl,?_⟩
   refine ⟨dc,ac,ec,rfl,gc5,?_⟩
   nofun
   refine ⟨gc5,?_⟩
   rw[tc.look]
   nofun
   intro r nr
   have er:H5 r=none:=nr
   have sr:=ze nr (.tup [.int (Sby.sm (prs "out" es) e.2.1),.int (Sby.sm (prs "fee" es) e.2.1),.int tn,.int (Sby.sm (prs "pay" es) e.2.1)])
   have err:=zD (.tup [.int (Sby.sm (prs "out" es) e.2.1),.int (Sby.sm (prs "fee" es) e.2.1),.int tn,.int (Sby.sm (prs "pay" es) e.2.1)]) nr
   generalize upd H5 r (.tup [.int (Sby.sm (prs "out" es) e.2.1),.int (Sby.sm (prs "fee" es) e.2.1),.int tn,.int (Sby.sm (prs "pay" es) e.2.1)])=H6 at sr err ⊢
   have eD6:=sr _ _ eD5
   nofun
   refine ⟨d,l,e.2.1,rfl,rfl,eD6,by ac_rfl,?_⟩
   have sl:=zmA l e.2.1 (.ref r)
   refine ⟨za9 l e.2.1 (.ref r),_,_,_,⟨zN (sA.trans sr) nd4,zg,by ac_rfl⟩,?_,rfl⟩
   rw[tk]
   refine zdo.step ((al.same (su.trans sr)).put eD6) ?_ c
   rw[zr (zau err eD6 (by intro z;unfold zbi at z;cases z)),err,etn]
   rfl
 ·rintro σ H' ⟨l,z1,z2,z3,⟨sH,eD,ll⟩,al,rfl⟩
  rw[xl,yaz (ycz _)] at al
  nofun
  exact h d l H' ndH (s12.trans (s3.trans sH)) eD ⟨al,by ac_rfl⟩
def zfF (K:W.Frag):Sp:=fun vs H Q _=>L2.Ee4 fun q rs (es:List Er) d=>L2.Aa6 (vs=[.ref q,.int d]) (H q=some (.lst rs)) (RL3 H rs es) (es.length<=61) ((∀ s∈prs "still" es,s.2<=1000000)) (Q (.int (mvd (prs "still" es) d)) H)
theorem zjt:zj qaf qaf (zh zd5):=by walk_at "sp"
theorem zpT (S:Src K mg "_law_moved" zd5 qaf) (T:Txt K mg) (zbC:Def P w K mg base 1 "_law_stands" qaf (zeq K)):Def P w K mg base 2 "_law_moved" qaf (zfF K):=by
 exists S.okF,zjt,0
 all_goals obtain ⟨q,rs,es,d,rfl,hq,hR,hl,hs,h⟩:=h
 ·rfl
 refine ⟨_,(zc (zdp PassesOwn.never (zgQ (zt zbC hr (za (pv 0) (za (pv 1) zd))))
  (zf (zk (i:=1) zjt.nd rfl (by walk_at "lc") (zx (ztD rfl) rfl T.zcp PyProof.Rows.boot_max (za (zi3 (ix:=[1]) ⟨rfl,by decide +kernel,rfl,by decide +kernel,rfl,rfl,rfl,  (show (["_law_word", "_law_first", "_law_value_here", "_law_day"]:List Str).Nodup by decide +kernel),by walk_at "cap", by walk_at "sub", by walk_at "has"⟩ (zG (pv 0)) (fun b=>(PW.pt (zee (zu zaf (pv 0) zy (nomark _)) (zdv (zps zc4 ze3 (pv 1) (pv 3) (pv 2)))))) (fun b=>(pv 2))) zd)))))
  (zf (zo (pv 1)))),?_⟩
 have sz:=sizeLine_eq
 have xl:=hR.length
 nofun
 refine ⟨fun n σ H'=>Same H H'/\∃ x:Int,σ=[some (.ref q),some (.int x)]/\mvd (prs "still" es) x=mvd (prs "still" es) d/\n=(1000000-x).toNat,⟨_,Same.refl _,d,rfl,rfl,rfl⟩,?_⟩
 rintro n σ H' ⟨sH,x,rfl,mx,rfl⟩
 nofun
 refine ⟨q,rs,es,x,rfl,sH _ _ hq,hR.same sH,hl,?_⟩
 by_cases c:Spans.isIn (prs "still" es) x=true
 ·rw[c]
  nofun
  refine ⟨_,fun σ' H' z=>z,?_⟩
  have hq1:=sH _ _ hq
  have hR1:=hR.same sH
  nofun
  refine ⟨⟨_,SqL.of hq1⟩,fun l nl=>?_⟩
  refine zfh (zO (SqL.of hq1)) nl (by ac_rfl) es xl.symm (fun e=>(V.str e.1.word,V.int e.2.1,V.int e.2.2)) (fun i v e hx he=>?_) (fun e=>isW "still" e && (decide (e.2.1<=x) && decide (x<e.2.2))) (fun _ v e=>v=.int e.2.2) (fun _ _ _ _ _ z=>z) (fun _ _ _ _ _ _ z=>z) ?_ ?_ ?_
  ·obtain ⟨e',he',t,rfl,ht⟩:=hR1.get hx
   obtain rfl:e'=e:=Option.some.inj (he'.symm.trans he)
   exact ⟨t,rfl,ht⟩
  ·rintro e H2 Q' em s2 hq'
   have hq'':=hq' _ (Same.refl _)
   nofun
   ·rename_i c1 c2
    rw[show isW "still" e=true from decide_eq_true c1,decide_eq_true c2] at hq''
    exact hq''
   ·rename_i c1 c2
    rw[show isW "still" e=true from decide_eq_true c1,decide_eq_false c2] at hq''
    exact hq''
   ·rename_i c1
    rw[show isW "still" e=false from decide_eq_false c1] at hq''
    exact hq''
  ·rintro e H2 Q' em fe s2 hq'
   nofun
   exact hq' _ _ (Same.refl _) rfl
  rintro ys H2 s2 eL hP
  have ye:=LL.eqm hP
  have mem:∀ M∈((es.filter fun e=>isW "still" e && (decide (e.2.1<=x) && decide (x<e.2.2))).map fun e:Er=>e.2.2),∃ s∈prs "still" es,s.1<=x/\x<s.2/\s.2=M:=fun M hM=>by
   obtain ⟨e,he,rfl⟩:=yah.mp hM
   obtain ⟨h1,h2⟩:=yal.mp he
   rw[Bool.and_eq_true,Bool.and_eq_true] at h2
   exact ⟨e.2,yay (yal.mpr ⟨h1,h2.1⟩),of_decide_eq_true h2.2.1,of_decide_eq_true h2.2.2,rfl⟩
  nofun
  refine ⟨l,(es.filter fun e=>isW "still" e && (decide (e.2.1<=x) && decide (x<e.2.2))).map fun e:Er=>e.2.2,rfl,SqL.of (by rw[eL,ye,ybf];rfl),?_,fun M hM _=>?_⟩
  ·obtain ⟨s,hs1,a1,a2⟩:=Spans.zaC.mp c
   obtain ⟨e,he,rfl⟩:=yah.mp hs1
   obtain ⟨h1,h2⟩:=yal.mp he
   exact ybp (yay (f:=fun e:Er=>e.2.2) (yal.mpr ⟨h1,by rw[h2,decide_eq_true a1,decide_eq_true a2];rfl⟩))
  obtain ⟨s,sm,s1,s2',rfl⟩:=mem M hM
  have b:=hs s sm
  nofun
  exact ⟨_,(by ac_rfl:(1000000-s.2).toNat<(1000000-x).toNat),sH.trans s2,_,rfl,(zuD s2' fun y h1 h2=>⟨s,sm,by ac_rfl,h2⟩).trans mx,rfl⟩
 ·rw[Bool.eq_false_iff.mpr c]
  nofun
  have:mvd (prs "still" es) d=x:=by rw[<-mx];exact zt6 fun z=>c (Spans.zaC.mpr z)
  rw[this] at h
  first | exact ⟨sH,h⟩ | exact h
def zjW (K:W.Frag):Sp:=fun vs H Q _=>L2.Ee5 fun p dx u m n=>L2.Aa3 (vs=[.ref p]) (Deb K H p dx u m n) (∀ x dy,H x=none->H dy=none->dy≠x->Q (.ref x) (upd (upd H dy (.own x)) x (.ins (cA K "Debt") dy (zan u m n))))
theorem zku:zj ["self", "other"] qaa (zh zfa):=by walk_at "sp"
theorem zqW (S:zp K (cA K "Debt") "copy" "Debt.copy" zfa qaa) (T:Txt K mg) (zcj:zv P w K mg base 1 (cA K "Debt") "__init__" qau (zg5 K)):zv P w K mg base 3 (cA K "Debt") "copy" qaa (zjW K):=by
 exists S.ok,zku,0
 all_goals obtain ⟨p,dx,u,m,n,rfl,e,h⟩:=h
 ·rfl
 refine ⟨_,(zc (zk (i:=1) zku.nd rfl (by walk_at "lc") (zbv T.zkJ zcj hr T.zmh (za (zab T.zI T.zaN (pv 0)) zd)))
  (zc (zax T.zI T.zK (pv 1) (zab T.zI T.zK (pv 0)))
  (zc (zax T.zI T.zU (pv 1) (zab T.zI T.zU (pv 0)))
  (zf (zo (pv 1)))))),?_⟩
 nofun
 refine ⟨p,dx,_,_,rfl,e,rfl,?_⟩
 nofun
 intro x dy nx ndy ney
 refine ⟨x,dy,u,rfl,zg,rfl,?_⟩
 rw[zZ]
 have sD:Same H (upd (upd H dy (.own x)) x (.ins (cA K "Debt") dy (zan u 0 0))):=(ze ndy _).trans (ze (by rw[zr ney.symm];exact nx) _)
 have e1:=Deb.same e sD
 have f1:Deb K (upd (upd H dy (.own x)) x (.ins (cA K "Debt") dy (zan u 0 0))) x dy u 0 0:=zg
 have nex:p≠x:=zW e nx
 nofun
 refine ⟨p,dx,_,_,rfl,e1,rfl,?_⟩
 nofun
 refine ⟨x,dy,_,rfl,f1,zbI,?_⟩
 rw[zou,zZ]
 have e2:=(Deb.same e ((ze ndy (.own x)).trans (ze (o:=.ins (cA K "Debt") dy (zan u m 0)) (by rw[zr ney.symm];exact nx))))
 have f2:Deb K (upd (upd H dy (.own x)) x (.ins (cA K "Debt") dy (zan u m 0))) x dy u m 0:=zg
 nofun
 refine ⟨p,dx,_,_,rfl,e2,rfl,?_⟩
 nofun
 refine ⟨x,dy,_,rfl,f2,zbI,?_⟩
 rw[zrR,zZ]
 nofun
 exact h x dy nx ndy ney
def zk6 (K:W.Frag):Sp:=fun vs H Q _=>L2.Ee6 fun p dx u m n x=>L2.Aa4 (vs=[.ref p,.int x]) (Deb K H p dx u m n) ((0<u/\u<1152921504606846976)) (Q .non (upd H p (.ins (cA K "Debt") dx (zan u (Dbt.step u .fee x m n).1 (Dbt.step u .fee x m n).2))))
theorem zq7:zj qac qac (zh zf2):=by walk_at "sp"
theorem zrX (S:zp K (cA K "Debt") "fee" "Debt.fee" zf2 qac) (T:Txt K mg) (zaq:zv P w K mg base 2 (cA K "Debt") "add_cents" qac (zbK K)):zv P w K mg base 3 (cA K "Debt") "fee" qac (zk6 K):=by
 exists S.ok,zq7,0
 all_goals obtain ⟨p,dx,u,m,n,x,rfl,e,hu,h⟩:=h
 ·rfl
 refine ⟨_,(zf (zam (zdr zaq T.zI hr (pv 0) (za (pv 1) zd)))),?_⟩
 nofun
 refine ⟨p,dx,_,rfl,e,rfl,?_⟩
 nofun
 refine ⟨p,dx,u,m,n,x,rfl,e,hu,?_⟩
 exact h
def zkq (K:W.Frag):Sp:=fun vs H Q _=>L2.Ee6 fun p dx u m n x=>L2.Aa4 (vs=[.ref p,.int x]) (Deb K H p dx u m n) ((0<u/\u<1152921504606846976)) (Q .non (upd H p (.ins (cA K "Debt") dx (zan u (Dbt.step u .lend x m n).1 (Dbt.step u .lend x m n).2))))
theorem zow:zj qac qac (zh zeU):=by walk_at "sp"
theorem zqD (S:zp K (cA K "Debt") "lend" "Debt.lend" zeU qac) (T:Txt K mg) (zaq:zv P w K mg base 2 (cA K "Debt") "add_cents" qac (zbK K)):zv P w K mg base 3 (cA K "Debt") "lend" qac (zkq K):=by
 exists S.ok,zow,0
 all_goals obtain ⟨p,dx,u,m,n,x,rfl,e,hu,h⟩:=h
 ·rfl
 refine ⟨_,(zc (zax T.zI T.zK (pv 0) (zi zz (zab T.zI T.zK (pv 0)) (pv 1)))
  (zf (zam (zdr zaq T.zI hr (pv 0) (za (pv 1) zd))))),?_⟩
 nofun
 refine ⟨p,dx,_,_,rfl,e,rfl,?_⟩
 nofun
 refine ⟨p,dx,_,rfl,e,zbI,?_⟩
 rw[zou]
 have e1:Deb K (upd H p (.ins (cA K "Debt") dx (zan u (m+x) n))) p dx u (m+x) n:=zg
 nofun
 refine ⟨p,dx,_,rfl,e1,rfl,?_⟩
 nofun
 refine ⟨p,dx,u,m+x,n,x,rfl,e1,hu,?_⟩
 rw[zZ]
 exact h
def zjY (K:W.Frag):Sp:=fun vs H Q _=>L2.Ee6 fun p dx u m n x=>L2.Aa4 (vs=[.ref p,.int x]) (Deb K H p dx u m n) ((0<u/\u<1152921504606846976)) (Q .non (upd H p (.ins (cA K "Debt") dx (zan u (Dbt.step u .take x m n).1 (Dbt.step u .take x m n).2))))
theorem zpi:zj qac qac (zh ze0):=by walk_at "sp"
theorem zqq (S:zp K (cA K "Debt") "take" "Debt.take" ze0 qac) (T:Txt K mg) (zaq:zv P w K mg base 2 (cA K "Debt") "add_cents" qac (zbK K)):zv P w K mg base 3 (cA K "Debt") "take" qac (zjY K):=by
 exists S.ok,zpi,0
 all_goals obtain ⟨p,dx,u,m,n,x,rfl,e,hu,h⟩:=h
 ·rfl
 refine ⟨_,(zf (zam (zdr zaq T.zI hr (pv 0) (za (ziK zgv (pv 1)) zd)))),?_⟩
 nofun
 refine ⟨p,dx,_,rfl,e,rfl,?_⟩
 nofun
 refine ⟨p,dx,u,m,n,-x,rfl,e,hu,?_⟩
 exact h
def znA (K:W.Frag):Sp:=fun vs H Q _=>L2.Ee4 fun a xs l d=>L2.Aa5 (vs=[.ref a,.int d]) (SqL K H a xs) (zA K H xs l) (Spans.Joined l) (Q (.bl (Spans.isIn l d)) H)
theorem zsV:zj qal qal (zh zi9):=by walk_at "sp"
theorem zuY (S:Src K mg "stands" zi9 qal) (T:Txt K mg) (zgd:Def P w K mg base 2 "moved" qal (zlq K)):Def P w K mg base 3 "stands" qal (znA K):=by
 exists S.ok,zsV,0
 all_goals obtain ⟨a,xs,l,d,rfl,hS,hR,J,h⟩:=h
 ·rfl
 refine ⟨_,(zf (zo (zdz zkE (zt zgd hr (za (pv 0) (za (pv 1) zd))) (pv 1) (nomark _)))),?_⟩
 nofun
 refine ⟨a,xs,l,d,rfl,hS,hR,J,?_⟩
 intro m F
 nofun
 refine qb h ?_
 cases b:Spans.isIn l d with
 | true=>exact (decide_eq_true (F.gt.mpr (Spans.zaC.mp b))).symm
 | false=>exact (decide_eq_false fun z=>by rw[Spans.zaC.mpr (F.gt.mp z)] at b;cases b).symm
def zmk (K:W.Frag):Sp:=fun vs H Q _=>∃ d,vs=[.int d]/\∀ y m r p,Cal.zbD y m r->Cal.num y m r=d->H p=none->Q (.ref p) (upd H p (.tup [.int y,.int m,.int r]))
theorem zcB:zj ["day", "year", "month", "rest"] qan (zh zhb):=by walk_at "sp"
theorem ztK (S:Src K mg "date_of" zhb qan) (T:Txt K mg) (zdu:Def P w K mg base 2 "year_of" qan (zi0 K)) (zbj:Def P w K mg base 1 "new_year" qah (zfc K)) (zdW:Def P w K mg base 2 "month_days" qay (zjz K)):Def P w K mg base 3 "date_of" qan (zmk K):=by
 exists S.ok,zcB,0
 all_goals obtain ⟨d,rfl,h⟩:=h
 ·rfl
 refine ⟨_,(zc (zk (i:=1) zcB.nd rfl (by walk_at "lc") (zt zdu hr (za (pv 0) zd)))
  (zc (zk (i:=2) zcB.nd rfl (by walk_at "lc") zb)
  (zc (zk (i:=3) zcB.nd rfl (by walk_at "lc") (zi zak (pv 0) (zt zbj hr (za (pv 1) zd))))
  (zc (zdp PassesOwn.never (zu zsu (pv 3) (zt zdW hr (za (pv 1) (za (pv 2) zd))) (nomark _))
  (zc (zk (i:=3) zcB.nd rfl (by walk_at "lc") (zi zak (pv 3) (zt zdW hr (za (pv 1) (za (pv 2) zd)))))
  (zf (zk (i:=2) zcB.nd rfl (by walk_at "lc") (zi zz (pv 2) zb)))))
  (zf (zo (zap (za (pv 1) (za (pv 2) (za (zi zz (pv 3) zb) zd)))))))))),?_⟩
 nofun
 intro y hy1 hy2
 nofun
 have e:=Cal.zbU y
 refine ⟨fun n σ H'=>H=H'/\∃ m r,σ=[some (.int d),some (.int y),some (.int m),some (.int r)]/\1<=m/\m<=12/\r=d-Cal.ny y-Cal.cum y m/\0<=r/\n=r.toNat,⟨_,rfl,_,_,rfl,by decide,by decide,(by simp[Cal.cum]),by ac_rfl,rfl⟩,?_⟩
 rintro n σ H' ⟨rfl,m,r,rfl,m1,m2,hr,r0,rfl⟩
 have b:=@Cal.zij y m m1 m2
 nofun
 ·refine ⟨_,fun σ' H' z=>z,?_⟩
  nofun
  have c:=@Cal.zio y m m1 m2
  have c12:=Cal.zmf y
  have m3:m<=11:=by
   by_cases q:m=12
   ·subst q;ac_rfl
   ·ac_rfl
  have cs:=@Cal.zgV y m m1 m3
  exact ⟨_,by ac_rfl,rfl,_,_,rfl,by ac_rfl,by ac_rfl,by ac_rfl,by ac_rfl,rfl⟩
 ·intro p hp
  exact h _ _ _ p ⟨m1,m2,by ac_rfl,by ac_rfl⟩ (by unfold Cal.num;ac_rfl) hp
def ziy (K:W.Frag):Sp:=fun vs H Q _=>∃ c kd g,vs=[.ref c,.int g]/\zb5 K H c kd/\(0<=g/\g<=366)/\Q .non H
theorem znn:zj qbb qbb (zh zda):=by walk_at "sp"
theorem znS (S:Src K mg "check_terms" zda qbb) (T:Txt K mg) (zhz:Def P w K mg base 2 "is_within" qba (zjU K)):Def P w K mg base 3 "check_terms" qbb (ziy K):=by
 exists S.ok,znn,0
 all_goals obtain ⟨c,kd,g,rfl,hc,⟨g0,g1⟩,h⟩:=h
 ·rfl
 refine ⟨_,(zc (zae (zpF (zgQ (zx ztt rfl T.zcA PyProof.Rows.boot_isinstance (za (pv 0) (za (zf9 (v:=.ref (cA K "Count")) rfl T.zkK rfl) zd)))))
   zj8
   zS)
  (zf (zae (zpF (zgQ (zt zhz hr (za (pv 1) (za zb (za (zcK T.zgZ) zd))))))
   zj8
   zS))),?_⟩
 have ty:=tyC (T.cls kd) (T.ikK kd) hc
 nofun
 refine ⟨_,_,_,_,rfl,ty,T.kitK0 kd,?_⟩
 rw[show zw4 kd .plain=true from rfl]
 nofun
 exact h
def zit (K:W.Frag):Sp:=fun vs H Q _=>L2.Ee6 fun p sp xs ys (es:List Er) l=>L2.Aa6 (vs=[.ref p,.ref sp]) (SqL K H p xs) (EL K H xs es) (es.length<=61) ((SqL K H sp ys/\zA K H ys l/\Spans.Joined l)) (∀ q H' ws r,H q=none->Same H H'->H' q=some (.lst ws)->zA K H' ws r->Sby.Tab r (mvp (mvd l) (prs "due" es))->Q (.ref q) H')
theorem znm:zj qbc qbc (zh zc7):=by walk_at "sp"
theorem zoa (S:Src K mg "fallen_dues" zc7 qbc) (T:Txt K mg) (zeh:Def P w K mg base 1 "summed" qak (zjQ K)) (zcu:Def P w K mg base 2 "sum_by" qae (zjL K)) (zgd:Def P w K mg base 2 "moved" qal (zlq K)):Def P w K mg base 3 "fallen_dues" qbc (zit K):=by
 exists S.ok,znm,0
 all_goals obtain ⟨p,sp,xs,ys,es,l,rfl,ep,hE,hl,⟨eS,rS,J⟩,h⟩:=h
 ·rfl
 refine ⟨_,(zf (zo (zt zeh hr (za (zbp (ix:=[1]) ⟨rfl,by decide +kernel,rfl,by decide +kernel,rfl,(show (["row", "spans"]:List Str).Nodup by decide +kernel),by walk_at "cap", by walk_at "sub", by walk_at "has"⟩ (zG (zt zcu hr (za (pv 0) (za zy zd)))) (fun b=>(zap (za (zt zgd hr (za (pv 1) (za (zq (zaz K) (pv 0) zb (fun _ _=>rfl)) zd))) (za (zq (zaz K) (pv 0) zb (fun _ _=>rfl)) zd))))) zd)))),?_⟩
 have sz:=sizeLine_eq
 nofun
 refine ⟨p,xs,es, "due", rfl,ep,hE,hl,.inr (.inr (.inr rfl)),fun q1 H1 ws1 r1 nq1 s1 e1 R1 T1=>?_⟩
 have eS1:=s1.seq eS
 have rS1:=rS.same s1
 have l1:=R1.length
 have pl:=ziC (w:="due") (es:=es)
 have rl:r1.length<=(prs "due" es).length:=by
  have:=zgl (Sby.zeb T1.up) fun k hk=>(T1.mem k).mp hk
  rw[yab,yab] at this
  exact this
 refine ⟨q1,rfl,⟨_,SqL.of e1⟩,fun lt nlt=>?_⟩
 refine comp_map (zO (SqL.of e1)) nlt (by ac_rfl) r1 l1.symm (fun H' v s=>∃ t,v=.ref t/\H' t=some (.tup [.int (mvd l s.1),.int s.2])) (fun v e H1 H2 s ⟨t,e1,e2⟩=>⟨t,e1,s _ _ e2⟩) (fun v e H1 ys zs hL ⟨t,e1,e2⟩=>⟨t,e1,by rw[zr (zau e2 hL (by intro z;cases z))];exact e2⟩) ?_ ?_
 ·rintro i x s H' Q' hx hs sH hq
  obtain ⟨u,s',rfl,hs',hu⟩:=(R1.same sH).get hx
  obtain rfl:s'=s:=Option.some.inj (hs'.symm.trans hs)
  nofun
  refine ⟨sp,ys,l,s'.1,rfl,sH.seq eS1,rS1.same sH,J,fun m F=>?_⟩
  obtain rfl:=zmo F
  nofun
  intro t nt
  exact hq _ _ (ze nt _) ⟨t,rfl,zg⟩
 ·rintro zs H2 s2 eL hL
  have ml:(mvp (mvd l) r1).length=r1.length:=yab ..
  nofun
  refine ⟨lt,zs,mvp (mvd l) r1,rfl,eL,zuK hL,by ac_rfl,fun q H3 ws r nq s3 eq hr' tb=>?_⟩
  exact h q H3 ws r (zM (s1.trans s2) nq) (s1.trans (s2.trans s3)) eq hr' (zvR _ T1 tb)
def zjR (K:W.Frag):Sp:=fun vs H Q _=>∃ d,vs=[.int d]/\0<=d/\∀ y m r p,Cal.zbD y m r->Cal.num y m r=d->H p=none->Q (.ref p) (upd H p (.tup [.int y,.int m,.int r]))
theorem za5:zj ["_law_day", "_law_year", "_law_rest", "_law_month"] qbo (zh zeQ):=by walk_at "sp"
theorem zq6 (S:Src K mg "_law_date" zeQ qbo) (T:Txt K mg) (zaQ:Def P w K mg base 1 "_law_leap" qas (zdG K)) (zaB:Def P w K mg base 2 "_law_month_size" qaw (zcx K)):Def P w K mg base 3 "_law_date" qbo (zjR K):=by
 exists S.ok,za5,0
 all_goals obtain ⟨d,rfl,h0,h⟩:=h
 ·rfl
 refine ⟨_,(zc (zk (i:=1) za5.nd rfl (by walk_at "lc") (zi zz zb (zi zaj (zi zba (pv 0) zb) zb)))
  (zc (zk (i:=2) za5.nd rfl (by walk_at "lc") (zi zL (pv 0) zb))
  (zc (zdp PassesOwn.never (zu zsu (pv 2) (zi zz zb (zT zfn rfl T.zhq PyProof.Rows.boot_int (za (zt zaQ hr (za (pv 1) zd)) zd))) (nomark _))
  (zc (zk (i:=2) za5.nd rfl (by walk_at "lc") (zi zak (zi zak (pv 2) zb) (zT zfn rfl T.zhq PyProof.Rows.boot_int (za (zt zaQ hr (za (pv 1) zd)) zd))))
  (zf (zk (i:=1) za5.nd rfl (by walk_at "lc") (zi zz (pv 1) zb)))))
  (zc (zk (i:=3) za5.nd rfl (by walk_at "lc") zb)
  (zc (zdp PassesOwn.never (zu zsu (pv 2) (zt zaB hr (za (pv 1) (za (pv 3) zd))) (nomark _))
  (zc (zk (i:=2) za5.nd rfl (by walk_at "lc") (zi zak (pv 2) (zt zaB hr (za (pv 1) (za (pv 3) zd)))))
  (zf (zk (i:=3) za5.nd rfl (by walk_at "lc") (zi zz (pv 3) zb)))))
  (zf (zo (zap (za (pv 1) (za (pv 3) (za (zi zz (pv 2) zb) zd))))))))))),?_⟩
 have lpd:∀ y:Int,(if Cal.leap y=true then (1:Int) else 0)=Cal.lp y:=fun y=>rfl
 nofun
 refine ⟨fun n σ H'=>H=H'/\∃ y r:Int,σ=[some (.int d),some (.int y),some (.int r),none]/\Cal.ny y+r=d/\0<=r/\n=r.toNat,⟨_,rfl,_,_,rfl,?_,by ac_rfl,rfl⟩,?_⟩
 ·unfold Cal.ny
  ac_rfl
 rintro n σ H' ⟨rfl,y,r,rfl,e1,r0,rfl⟩
 have e:=Cal.zbU y
 have l:=Cal.zlW y
 nofun
 refine .inr ⟨_,rfl,?_⟩
 rw[lpd]
 nofun
 ·rename_i q
  refine ⟨_,fun σ' H' z=>z,?_⟩
  nofun
  refine .inr ⟨_,rfl,?_⟩
  rw[lpd]
  nofun
  exact ⟨(r-365-Cal.lp y).toNat,by ac_rfl,rfl,_,_,rfl,by ac_rfl,by ac_rfl,rfl⟩
 rename_i q
 refine ⟨fun n σ H'=>H=H'/\∃ m r:Int,σ=[some (.int d),some (.int y),some (.int r),some (.int m)]/\1<=m/\m<=12/\r=d-Cal.ny y-Cal.cum y m/\0<=r/\n=r.toNat,⟨_,rfl,_,_,rfl,by decide,by decide,(by simp[Cal.cum];ac_rfl),by ac_rfl,rfl⟩,?_⟩
 rintro n σ H' ⟨rfl,m,r',rfl,m1,m2,hr,r0',rfl⟩
 have b:=@Cal.zij y m m1 m2
 nofun
 ·refine ⟨_,fun σ' H' z=>z,?_⟩
  nofun
  have c:=@Cal.zio y m m1 m2
  have c12:=Cal.zmf y
  have m3:m<=11:=by
   by_cases q:m=12
   ·subst q;ac_rfl
   ·ac_rfl
  have cs:=@Cal.zgV y m m1 m3
  exact ⟨(r'-Cal.mlen y m).toNat,by ac_rfl,rfl,_,_,rfl,by ac_rfl,by ac_rfl,by ac_rfl,by ac_rfl,rfl⟩
 ·intro p hp
  exact h _ _ _ p ⟨m1,m2,by ac_rfl,by ac_rfl⟩ (by unfold Cal.num;ac_rfl) hp
noncomputable def lk1 (g:Int) (es:List Er) (d:Int):Int:=p0 (upto (mvp (mvd (prs "still" es)) (prs "due" es)) (d-g)-upto (prs "pay" es) d)
theorem zuS (m:Int->Int) (es:List Er) (z:Int):(((es.filter (isW "due")).filter fun e=>decide (m e.2.1<=z)).map fun e:Er=>e.2.2).sum=upto (mvp m (prs "due" es)) z:=by
 unfold upto mvp prs
 rw[ybf,ycy,ybf]
 rfl
theorem zuL (es:List Er) (z:Int):((es.filter fun e=>isW "pay" e && decide (e.2.1<=z)).map fun e:Er=>e.2.2).sum=upto (prs "pay" es) z:=by
 unfold upto prs
 rw[ycy,ybf,ycg]
 congr 2
 refine yca fun e _=>?_
 rw[Bool.and_comm]
 rfl
def zhi (K:W.Frag):Sp:=fun vs H Q _=>L2.Ee6 fun p q (ns:List Int) rs (es:List Er) d=>L2.Aa7 (vs=[.ref p,.ref q,.int d]) (SqL K H p (ns.map V.int)) (H q=some (.lst rs)) (RL3 H rs es) (es.length<=61) ((∀ s∈prs "still" es,s.2<=1000000)) (Q (.int (lk1 (zaO ns) es d)) H)
theorem zcr:zj ["_law_script", "_law_rows", "_law_day", "_law_grace_here", "_law_dues", "_law_late"] qbp (zh zcC):=by walk_at "sp"
theorem zmB (S:Src K mg "_law_lacking" zcC qbp) (T:Txt K mg) (zaT:Def P w K mg base 2 "_law_grace" qad (zc2 K)) (zb0:Def P w K mg base 2 "_law_moved" qaf (zfF K)):Def P w K mg base 3 "_law_lacking" qbp (zhi K):=by
 exists S.okF,zcr,0
 all_goals obtain ⟨p,q,ns,rs,es,d,rfl,hp,hq,hR,hl,hs,h⟩:=h
 ·rfl
 refine ⟨_,(zc (zk (i:=3) zcr.nd rfl (by walk_at "lc") (zt zaT hr (za (pv 0) zd)))
  (zc (zl4 (i:=4) zcr.nd rfl rfl (ix:=[1]) ⟨rfl,by decide +kernel,rfl,by decide +kernel,rfl,rfl,rfl,  (show (["_law_word", "_law_first", "_law_value_here", "_law_rows"]:List Str).Nodup by decide +kernel),by walk_at "cap", by walk_at "sub", by walk_at "has"⟩ (zG (pv 1)) (fun b=>(zu zaf (pv 0) zy (nomark _))) (fun b=>(zap (za (zt zb0 hr (za (pv 3) (za (pv 1) zd))) (za (pv 2) zd)))))
  (zc (zk (i:=5) zcr.nd rfl (by walk_at "lc") (zx (zhs rfl) rfl T.zkC PyProof.Rows.boot_sum (za (zsl (ix:=[2,3]) ⟨rfl,by decide +kernel,rfl,by decide +kernel,rfl,rfl,  (show (["_law_falls", "_law_value_here", "_law_day", "_law_grace_here"]:List Str).Nodup by decide +kernel),by walk_at "cap", by walk_at "sub", by walk_at "has"⟩ (zG (pv 4)) (fun b=>(zu zc4 (pv 0) (zi zak (pv 2) (pv 3)) (nomark _))) (fun b=>(pv 1))) zd)))
  (zf (zo (zx (zbm rfl) rfl T.zcp PyProof.Rows.boot_max (za zb (za (zi zak (pv 5) (zx (zhs rfl) rfl T.zkC PyProof.Rows.boot_sum (za (zi3 (ix:=[2]) ⟨rfl,by decide +kernel,rfl,by decide +kernel,rfl,rfl,rfl,  (show (["_law_word", "_law_first", "_law_value_here", "_law_day"]:List Str).Nodup by decide +kernel),by walk_at "cap", by walk_at "sub", by walk_at "has"⟩ (zG (pv 1)) (fun b=>(PW.pt (zee (zu zaf (pv 0) zy (nomark _)) (zdv (zu zc4 (pv 1) (pv 3) (nomark _)))))) (fun b=>(pv 2))) zd))) zd)))))))),?_⟩
 have sz:=sizeLine_eq
 have xl:=hR.length
 nofun
 refine ⟨p,ns,rfl,hp,?_⟩
 nofun
 refine ⟨⟨_,SqL.of hq⟩,fun l nl=>?_⟩
 refine zfh (zO (SqL.of hq)) nl (by ac_rfl) es xl.symm (fun e=>(V.str e.1.word,V.int e.2.1,V.int e.2.2)) (fun i v e hx he=>?_) (isW "due") (fun H' v e=>∃ t,v=.ref t/\H' t=some (.tup [.int (mvd (prs "still" es) e.2.1),.int e.2.2])) (fun _ _ _ _ s ⟨t,e1,e2⟩=>⟨t,e1,s _ _ e2⟩) (fun _ _ _ _ _ hL ⟨t,e1,e2⟩=>⟨t,e1,by rw[zr (zau e2 hL (by intro z;cases z))];exact e2⟩) ?_ ?_ ?_
 ·obtain ⟨e',he',t,rfl,ht⟩:=hR.get hx
  obtain rfl:e'=e:=Option.some.inj (he'.symm.trans he)
  exact ⟨t,rfl,ht⟩
 ·rintro e H2 Q' em s2 hq'
  nofun
  exact hq' _ (Same.refl _)
 ·rintro e H2 Q' em fe s2 hq'
  nofun
  refine ⟨q,rs,es,_,rfl,s2 _ _ hq,hR.same s2,hl,hs,?_⟩
  nofun
  intro t nt
  exact hq' _ _ (ze nt _) ⟨t,rfl,zg⟩
 rintro ys H1 s1 eL hP
 have yl:=hP.length
 have fl:=yaq (isW "due") es
 nofun
 refine ⟨⟨_,SqL.of eL⟩,fun l2 nl2=>?_⟩
 refine zt0 (zO (SqL.of eL)) nl2 (by ac_rfl) (es.filter (isW "due")) yl.symm (fun e=>(V.int (mvd (prs "still" es) e.2.1),V.int e.2.2)) (fun i v e hx he=>?_) (fun e=>decide (mvd (prs "still" es) e.2.1<=d-zaO ns)) (fun _ v e=>v=.int e.2.2) (fun _ _ _ _ _ z=>z) (fun _ _ _ _ _ _ z=>z) ?_ ?_ ?_
 ·obtain ⟨e',he',t,rfl,ht⟩:=hP.get hx
  obtain rfl:e'=e:=Option.some.inj (he'.symm.trans he)
  exact ⟨t,rfl,ht⟩
 ·rintro e H2 Q' em s2 hq'
  nofun
  exact hq' _ (Same.refl _)
 ·rintro e H2 Q' em fe s2 hq'
  nofun
  exact hq' _ _ (Same.refl _) rfl
 rintro ys2 H2 s2 eL2 hP2
 have y2:=LL.eqm hP2
 have s12:=s1.trans s2
 have hq2:=s12 _ _ hq
 have hR2:=hR.same s12
 nofun
 refine ⟨l2,(((es.filter (isW "due")).filter fun e=>decide (mvd (prs "still" es) e.2.1<=d-zaO ns)).map fun e:Er=>e.2.2),rfl,SqL.of (by rw[eL2,y2,ybf];rfl),?_⟩
 rw[zuS]
 nofun
 refine ⟨⟨_,SqL.of hq2⟩,fun l3 nl3=>?_⟩
 refine zfh (zO (SqL.of hq2)) nl3 (by ac_rfl) es xl.symm (fun e=>(V.str e.1.word,V.int e.2.1,V.int e.2.2)) (fun i v e hx he=>?_) (fun e=>isW "pay" e && decide (e.2.1<=d)) (fun _ v e=>v=.int e.2.2) (fun _ _ _ _ _ z=>z) (fun _ _ _ _ _ _ z=>z) ?_ ?_ ?_
 ·obtain ⟨e',he',t,rfl,ht⟩:=hR2.get hx
  obtain rfl:e'=e:=Option.some.inj (he'.symm.trans he)
  exact ⟨t,rfl,ht⟩
 ·rintro e H3 Q' em s3 hq'
  have hq'':=hq' _ (Same.refl _)
  nofun
  ·rename_i c1
   rw[show isW "pay" e=true from decide_eq_true c1] at hq''
   exact hq''
  ·rename_i c1
   rw[show isW "pay" e=false from decide_eq_false c1] at hq''
   exact hq''
 ·rintro e H3 Q' em fe s3 hq'
  nofun
  exact hq' _ _ (Same.refl _) rfl
 rintro ys3 H3 s3 eL3 hP3
 have y3:=LL.eqm hP3
 nofun
 refine ⟨l3,((es.filter fun e=>isW "pay" e && decide (e.2.1<=d)).map fun e:Er=>e.2.2),rfl,SqL.of (by rw[eL3,y3,ybf];rfl),?_⟩
 rw[zuL]
 nofun
 first | exact ⟨s12.trans s3,h⟩ | exact h
def zjs (K:W.Frag):Sp:=fun vs H Q _=>L2.Ee6 fun p q (ns:List Int) rs (es:List Er) L=>L2.Aa7 (vs=[.ref p,.ref q,.int L]) (SqL K H p (ns.map V.int)) (H q=some (.lst rs)) (RL3 H rs es) (es.length<=16) ((∀ s∈prs "still" es,s.2<=1000000)) (∀ l (ds:List Int) H',H l=none->Same H H'->H' l=some (.lst (ds.map V.int))->ds.length<64->Edgs (zaO ns) es L ds->Q (.ref l) H')
theorem zfO:zj ["_law_script", "_law_rows", "_law_last", "_law_days"] qap (zh zdP):=by walk_at "sp"
theorem zqc (S:Src K mg "_law_edges" zdP qap) (T:Txt K mg) (zb0:Def P w K mg base 2 "_law_moved" qaf (zfF K)) (zaT:Def P w K mg base 2 "_law_grace" qad (zc2 K)):Def P w K mg base 3 "_law_edges" qap (zjs K):=by
 exists S.ok,zfO,0
 all_goals obtain ⟨p,q,ns,rs,es,L,rfl,hp,hq,hR,hl,hs,h⟩:=h
 ·rfl
 refine ⟨_,(zc (zk (i:=3) zfO.nd rfl (by walk_at "lc") (zi zcg (zi zcg (zat (za (pv 2) zd)) (zbp (ix:=[]) ⟨rfl,by decide +kernel,rfl,by decide +kernel,rfl,(show (["_law_row_here"]:List Str).Nodup by decide +kernel),by walk_at "cap", by walk_at "sub", by walk_at "has"⟩ (zG (pv 1)) (fun b=>(zq (zaz K) (pv 0) zb (fun _ _=>rfl))))) (zbl (ix:=[]) ⟨rfl,by decide +kernel,rfl,by decide +kernel,rfl,(show (["_law_row_here"]:List Str).Nodup by decide +kernel),by walk_at "cap", by walk_at "sub", by walk_at "has"⟩ (zG (pv 1)) (fun b=>(zu zaf (zq (zaz K) (pv 0) zb (fun _ _=>rfl)) zy (nomark _))) (fun b=>(zq (zaz K) (pv 0) zb (fun _ _=>rfl))))))
  (zc (zk (i:=3) zfO.nd rfl (by walk_at "lc") (zi zcg (pv 3) (zbl (ix:=[1,0]) ⟨rfl,by decide +kernel,rfl,by decide +kernel,rfl,(show (["_law_row_here", "_law_rows", "_law_script"]:List Str).Nodup by decide +kernel),by walk_at "cap", by walk_at "sub", by walk_at "has"⟩ (zG (pv 1)) (fun b=>(zu zaf (zq (zaz K) (pv 0) zb (fun _ _=>rfl)) zy (nomark _))) (fun b=>(zi zz (zt zb0 hr (za (pv 1) (za (zq (zaz K) (pv 0) zb (fun _ _=>rfl)) zd))) (zt zaT hr (za (pv 2) zd)))))))
  (zf (zo (zx (zcy rfl) rfl T.zbG PyProof.Rows.boot_sorted (za (zT (zfg rfl) rfl T.ziZ PyProof.Rows.boot_set (za (zbl (ix:=[2]) ⟨rfl,by decide +kernel,rfl,by decide +kernel,rfl,(show (["_law_day", "_law_last"]:List Str).Nodup by decide +kernel),by walk_at "cap", by walk_at "sub", by walk_at "has"⟩ (zG (pv 3)) (fun b=>(zu zc4 (pv 0) (pv 1) (nomark _))) (fun b=>(pv 0))) zd)) zd)))))),?_⟩
 have sz:=sizeLine_eq
 have xl:=hR.length
 nofun
 intro p0 np0
 have s0:=ze np0 (.lst [.int L])
 have e0:=zD (.lst [.int L]) np0
 generalize upd H p0 (.lst [.int L])=H0 at s0 e0 ⊢
 have hq0:=s0 _ _ hq
 have hR0:=hR.same s0
 nofun
 refine ⟨⟨_,SqL.of hq0⟩,fun l1 nl1=>?_⟩
 refine comp_map (zO (SqL.of hq0)) nl1 (by ac_rfl) es xl.symm (fun _ v e=>v=.int e.2.1) (fun _ _ _ _ _ z=>z) (fun _ _ _ _ _ _ z=>z) ?_ ?_
 ·rintro i x e H' Q' hx he sH hq'
  obtain ⟨e',he',t,rfl,ht⟩:=hR0.get hx
  obtain rfl:e'=e:=Option.some.inj (he'.symm.trans he)
  nofun
  refine ⟨t,_,_,_,rfl,rfl,SqT.of (sH _ _ ht),rfl,?_⟩
  exact hq' _ _ (Same.refl _) rfl
 rintro y1 H1 s1 eL1 hP1
 obtain rfl:=LL.eqm hP1
 have s01:=s0.trans s1
 have e01:=s1 _ _ e0
 clear hP1
 nofun
 obtain ⟨A1,hA1⟩:∃ A1:List Int,A1=L::es.map (fun e:Er=>e.2.1):=⟨_,rfl⟩
 refine ⟨p0,l1,_,_,rfl,rfl,e01,eL1,by rw[yab];show 1+_<=_;ac_rfl,fun q1 nq1=>?_⟩
 rw[show ([V.int L]++es.map fun e:Er=>V.int e.2.1)=A1.map V.int by rw[hA1,ybi,ybf];rfl]
 have s2:=ze nq1 (.lst (A1.map V.int))
 have e2:=zD (.lst (A1.map V.int)) nq1
 generalize upd H1 q1 (.lst (A1.map V.int))=H2 at s2 e2 ⊢
 have s02:=s01.trans s2
 have hq2:=s02 _ _ hq
 have hR2:=hR.same s02
 nofun
 refine ⟨⟨_,SqL.of hq2⟩,fun l2 nl2=>?_⟩
 refine zb6 (zO (SqL.of hq2)) nl2 (by ac_rfl) es xl.symm (isW "still") (fun _ v e=>v=.int e.2.2) (fun _ _ _ _ _ z=>z) (fun _ _ _ _ _ _ z=>z) ?_ ?_ ?_
 ·rintro i x e H' Q' hx he sH hq'
  obtain ⟨e',he',t,rfl,ht⟩:=hR2.get hx
  obtain rfl:e'=e:=Option.some.inj (he'.symm.trans he)
  nofun
  refine ⟨t,_,_,_,rfl,rfl,SqT.of (sH _ _ ht),rfl,?_⟩
  nofun
  exact hq'
 ·rintro i x e H' Q' hx he fe sH hq'
  obtain ⟨e',he',t,rfl,ht⟩:=hR2.get hx
  obtain rfl:e'=e:=Option.some.inj (he'.symm.trans he)
  nofun
  refine ⟨t,_,_,_,rfl,rfl,SqT.of (sH _ _ ht),rfl,?_⟩
  exact hq' _ _ (Same.refl _) rfl
 rintro y2 H3 s3 eL3 hP3
 obtain rfl:=LL.eqm hP3
 clear hP3
 have f2:=yaq (isW "still") es
 have al:A1.length=es.length+1:=by rw[hA1,ybc,yab]
 have s03:=s02.trans s3
 nofun
 refine ⟨q1,l2,_,_,rfl,rfl,s3 _ _ e2,eL3,by rw[yab,yab];ac_rfl,fun q2 nq2=>?_⟩
 obtain ⟨A2,hA2⟩:∃ A2:List Int,A2=A1++(es.filter (isW "still")).map (fun e:Er=>e.2.2):=⟨_,rfl⟩
 rw[show (A1.map V.int++(es.filter (isW "still")).map fun e:Er=>V.int e.2.2)=A2.map V.int by rw[hA2,yau,ybf];rfl]
 have s4:=ze nq2 (.lst (A2.map V.int))
 have e4:=zD (.lst (A2.map V.int)) nq2
 generalize upd H3 q2 (.lst (A2.map V.int))=H4 at s4 e4 ⊢
 have s04:=s03.trans s4
 have hq4:=s04 _ _ hq
 have hR4:=hR.same s04
 have a2:A2.length<=2*es.length+1:=by rw[hA2,yai,yab];ac_rfl
 nofun
 refine ⟨⟨_,SqL.of hq4⟩,fun l3 nl3=>?_⟩
 refine zb6 (zO (SqL.of hq4)) nl3 (by ac_rfl) es xl.symm (isW "due") (fun _ v e=>v=.int (mvd (prs "still" es) e.2.1+zaO ns)) (fun _ _ _ _ _ z=>z) (fun _ _ _ _ _ _ z=>z) ?_ ?_ ?_
 ·rintro i x e H' Q' hx he sH hq'
  obtain ⟨e',he',t,rfl,ht⟩:=hR4.get hx
  obtain rfl:e'=e:=Option.some.inj (he'.symm.trans he)
  nofun
  refine ⟨t,_,_,_,rfl,rfl,SqT.of (sH _ _ ht),rfl,?_⟩
  nofun
  exact hq'
 ·rintro i x e H' Q' hx he fe sH hq'
  obtain ⟨e',he',t,rfl,ht⟩:=hR4.get hx
  obtain rfl:e'=e:=Option.some.inj (he'.symm.trans he)
  have sB:=s04.trans sH
  nofun
  refine ⟨t,_,_,_,rfl,rfl,SqT.of (sH _ _ ht),rfl,?_⟩
  nofun
  refine ⟨q,rs,es,_,rfl,sB _ _ hq,hR.same sB,by ac_rfl,hs,?_⟩
  nofun
  refine ⟨p,ns,rfl,sB.seq hp,?_⟩
  nofun
  exact hq' _ _ (Same.refl _) rfl
 rintro y3 H5 s5 eL5 hP5
 obtain rfl:=LL.eqm hP5
 clear hP5
 have f3:=yaq (isW "due") es
 have s05:=s04.trans s5
 nofun
 refine ⟨q2,l3,_,_,rfl,rfl,s5 _ _ e4,eL5,by rw[yab,yab];ac_rfl,fun q3 nq3=>?_⟩
 obtain ⟨A3,hA3⟩:∃ A3:List Int,A3=A2++(es.filter (isW "due")).map (fun e:Er=>mvd (prs "still" es) e.2.1+zaO ns):=⟨_,rfl⟩
 rw[show (A2.map V.int++(es.filter (isW "due")).map fun e:Er=>V.int (mvd (prs "still" es) e.2.1+zaO ns))=A3.map V.int by rw[hA3,yau,ybf];rfl]
 have s6:=ze nq3 (.lst (A3.map V.int))
 have e6:=zD (.lst (A3.map V.int)) nq3
 generalize upd H5 q3 (.lst (A3.map V.int))=H6 at s6 e6 ⊢
 have s06:=s05.trans s6
 have a3:A3.length<=3*es.length+1:=by rw[hA3,yai,yab];ac_rfl
 nofun
 refine ⟨⟨_,SqL.of e6⟩,fun l4 nl4=>?_⟩
 refine zb6 (zO (SqL.of e6)) nl4 (by rw[yab];ac_rfl) A3 (yab _).symm (fun a=>decide (a<=L)) (fun _ v a=>v=.int a) (fun _ _ _ _ _ z=>z) (fun _ _ _ _ _ _ z=>z) ?_ ?_ ?_
 ·rintro i x a H' Q' hx ha sH hq'
  rw[yaj,ha] at hx
  obtain rfl:V.int a=x:=Option.some.inj hx
  nofun
  exact hq'
 ·rintro i x a H' Q' hx ha fa sH hq'
  rw[yaj,ha] at hx
  obtain rfl:V.int a=x:=Option.some.inj hx
  nofun
  exact hq' _ _ (Same.refl _) rfl
 rintro y4 H7 s7 eL7 hP7
 obtain rfl:=LL.eqm hP7
 clear hP7
 have f4:=yaq (fun a=>decide (a<=L)) A3
 nofun
 refine ⟨l4,_,rfl,SqL.of eL7,by ac_rfl,fun pS H8 ks nPS s8 e8 nd mm lm=>?_⟩
 nofun
 refine ⟨pS,ks,rfl,e8,by ac_rfl,fun pR H9 ds nPR s9 e9 pm up=>?_⟩
 nofun
 refine h pR ds H9 (zM (s06.trans (s7.trans s8)) nPR) (s06.trans (s7.trans (s8.trans s9))) e9 (by rw[pm.length_eq];ac_rfl) ⟨zhc pm nd up,fun d=>?_⟩
 rw[pm.mem_iff,mm,yal,hA3,yaf,hA2,yaf,hA1,yak]
 unfold prs
 rw[ybf,ybf]
 constructor
 ·rintro ⟨(((z | z) | z) | z),c⟩
  ·exact ⟨of_decide_eq_true c,.inl z⟩
  ·exact ⟨of_decide_eq_true c,.inr (.inl z)⟩
  ·exact ⟨of_decide_eq_true c,.inr (.inr (.inl z))⟩
  ·exact ⟨of_decide_eq_true c,.inr (.inr (.inr z))⟩
 ·rintro ⟨c,z | z | z | z⟩
  ·exact ⟨.inl (.inl (.inl z)),decide_eq_true c⟩
  ·exact ⟨.inl (.inl (.inr z)),decide_eq_true c⟩
  ·exact ⟨.inl (.inr z),decide_eq_true c⟩
  ·exact ⟨.inr z,decide_eq_true c⟩
structure FRow (k:Ek) (d x:Int):Prop where
 rt:k=.rate\/k=.late->0<=x/\x<=1000000
 out:k=.out->0<=x
 st:k=.still->d<x/\x<=1000000
theorem zme (k:Ek) (h:V.str k.word=V.str "still"):k=.still:=by
 cases k <;> first | rfl | (injection h with h;exact absurd h (by decide +kernel))
def zhh (K:W.Frag):Sp:=fun vs H Q _=>∃ c,vs=[.int c]/\∀ r k d x H',Same H H'->H r=none->H' r=some (.tup (zb7 k d x))->k≠.base->(0<=d/\d<=999999)->FRow k d x->Q (.ref r) H'
theorem zaE:zj ["_law_cell", "_law_word", "_law_day", "_law_value_here", "_law_xs"] qbq (zh zcE):=by walk_at "sp"
theorem zm9 (S:Src K mg "_law_far_row" zcE qbq) (T:Txt K mg) (zja:Def P w K mg base 2 "_law_row" qbm (zk8 K)) (zaR:Def P w K mg base 1 "_law_draws" qav (zc9 K)):Def P w K mg base 3 "_law_far_row" qbq (zhh K):=by
 exists S.ok,zaE,0
 all_goals obtain ⟨c,rfl,h⟩:=h
 ·rfl
 refine ⟨_,(zc (zfl (zt zja hr (za (pv 0) (za zb (za zb zd)))) (zch rfl (zH (zC (i:=1) zaE.nd rfl (by walk_at "lc")) (zH (zC (i:=2) zaE.nd rfl (by walk_at "lc")) (zH (zC (i:=3) zaE.nd rfl (by walk_at "lc")) zbz)))))
  (zc (zk (i:=4) zaE.nd rfl (by walk_at "lc") (zt zaR hr (za (zi zba (pv 0) zb) (za zb zd))))
  (zc (zk (i:=2) zaE.nd rfl (by walk_at "lc") (zi zL (zq zB (pv 4) zb (fun _ _=>rfl)) (zbb (v:=1000000) (by decide +kernel) ⟨by decide,by decide,by decide⟩)))
  (zc (zjX (zae (zu zaf (pv 1) zy (nomark _))
  (zc (zk (i:=3) zaE.nd rfl (by walk_at "lc") (zx (za8 rfl) rfl T.zcM PyProof.Rows.boot_min (za (zbb (v:=1000000) (by decide +kernel) ⟨by decide,by decide,by decide⟩) (za (zi zz (zi zz (pv 2) zb) (zi zL (zq zB (pv 4) zb (fun _ _=>rfl)) zb)) zd))))
  (zf (zae (zu zaf (zi zL (zq zB (pv 4) zb (fun _ _=>rfl)) zb) zb (nomark _))
  (zf (zk (i:=3) zaE.nd rfl (by walk_at "lc") (zi zz (zi zz (pv 2) zb) (zi zL (zi zba (zq zB (pv 4) zb (fun _ _=>rfl)) zb) (zi zak (zbb (v:=1000000) (by decide +kernel) ⟨by decide,by decide,by decide⟩) (pv 2))))))
   zS)))
   zS))
  (zf (zo (zap (za (pv 1) (za (pv 2) (za (pv 3) zd)))))))))),?_⟩
 have sz:=sizeLine_eq
 nofun
 intro r k d0 x0 H1 s1 nr er kb _ vb
 nofun
 refine ⟨r,_,rfl,SqT.of er,rfl,?_⟩
 nofun
 intro p ms H2 s2 np ep nl nn
 obtain ⟨n0,n1,rfl⟩:∃ a b,ms=[a,b]:=by
  match ms,nl with
  | [a,b],_=>exact ⟨a,b,rfl⟩
 have b0:=nn n0 (by simp)
 have b1:=nn n1 (by simp)
 have s12:=s1.trans s2
 nofun
 refine ⟨p,_,_,_,rfl,rfl,SqL.of ep,rfl,?_⟩
 obtain ⟨D,hD⟩:∃ D:Int,D=n0 % 1000000:=⟨_,rfl⟩
 have D0:0<=D/\D<=999999:=by ac_rfl
 nofun
 refine ⟨fun σ' H'=>H2=H'/\∃ y:Int,(k=.still->D<y/\y<=1000000)/\(k≠.still->y=x0)/\σ'=[some (.int c),some (.str k.word),some (.int D),some (.int y),some (.ref p)],?_,?_⟩
 ·rw[hD] at *
  clear hD
  nofun
  ·have hc:k=.still:=zme k (by assumption)
   subst hc
   refine ⟨p,_,_,_,rfl,rfl,SqL.of ep,rfl,?_⟩
   nofun
   refine ⟨p,_,_,_,rfl,rfl,SqL.of ep,rfl,?_⟩
   have m0:=ydy (n1 / 9) (show 1000000-n0 % 1000000≠0 by ac_rfl)
   have m1:=ydx (n1 / 9) (show 0<1000000-n0 % 1000000 by ac_rfl)
   nofun
   ·refine ⟨p,_,_,_,rfl,rfl,SqL.of ep,rfl,?_⟩
    nofun
    exact ⟨_,fun _=>⟨by ac_rfl,by ac_rfl⟩,fun z=>absurd rfl z,rfl⟩
   ·exact ⟨_,fun _=>by split <;> ac_rfl,fun z=>absurd rfl z,rfl⟩
  ·rename_i hc
   exact ⟨x0,fun z=>absurd (by rw[z];rfl) hc,fun _=>rfl,rfl⟩
 rintro σ' H' ⟨rfl,y,ya,yb,rfl⟩
 nofun
 intro t nt
 refine h t k D y _ (s12.trans (ze nt _)) (zM s12 nt) zg kb D0 ⟨fun z=>?_,fun z=>?_,fun z=>ya z⟩
 ·rw[yb (by rcases z with rfl | rfl <;> (intro q;cases q))]
  have:=vb.1
  rcases z with rfl | rfl <;> exact this
 ·subst z
  rw[yb (by intro q;cases q)]
  have:1<=x0/\x0<=1000000000000:=vb.1
  ac_rfl
def zml (K:W.Frag):Sp:=fun vs H Q _=>∃ a A b,vs=[.ref a]/\zbd K H a A b/\BOk b /\
 ∀ p ws (ds:List Int) H',H p=none->Same H H'->H' p=some (.lst ws)->R4 b H' ws ds->ds.Pairwise (·<·)->(∀ d,d∈ds↔TDay b d)->ds.length<=1000->Q (.ref p) H'
theorem zbk:zj ["book", "spans", "rates", "lates", "asked_sums", "handed_sums", "told", "day", "lacks"] qag (zh zhn):=by walk_at "sp"
theorem zsL (S:Src K mg "burdens" zhn qag) (T:Txt K mg) (zbA:zv P w K mg base 1 (cA K "Book") "stills" qaa (zeu K)) (zbY:zv P w K mg base 1 (cA K "Book") "rates" qaa (zfv K)) (zbR:zv P w K mg base 1 (cA K "Book") "lates" qaa (zfH K)) (zh8:Def P w K mg base 2 "late_sums" qag (zkx K)) (zbn:Def P w K mg base 1 "running_sums" ["rows"] (zdK K)) (za3:zv P w K mg base 1 (cA K "Book") "pays" qaa (zdT K)) (zeD:Def P w K mg base 2 "turning_days" qag (zha K)) (zlD:Def P w K mg base 3 "stands" qal (znA K)) (zcG:Def P w K mg base 2 "value_at" qbk (zk3 K)):Def P w K mg base 4 "burdens" qag (zml K):=by
 exists S.ok,zbk,0
 all_goals obtain ⟨a,A,b,rfl,B,O,h⟩:=h
 ·rfl
 refine ⟨_,(zc (zk (i:=1) zbk.nd rfl (by walk_at "lc") (zQ zbA T.zF hr (pv 0)))
  (zc (zk (i:=2) zbk.nd rfl (by walk_at "lc") (zQ zbY T.zF hr (pv 0)))
  (zc (zk (i:=3) zbk.nd rfl (by walk_at "lc") (zQ zbR T.zF hr (pv 0)))
  (zc (zk (i:=4) zbk.nd rfl (by walk_at "lc") (zt zh8 hr (za (pv 0) zd)))
  (zc (zk (i:=5) zbk.nd rfl (by walk_at "lc") (zt zbn hr (za (zQ za3 T.zF hr (pv 0)) zd)))
  (zc (zk (i:=6) zbk.nd rfl (by walk_at "lc") (zat zd))
  (zc (zbQ PassesOwn.never rfl (zG (zt zeD hr (za (pv 0) zd))) (zC (i:=7) zbk.nd rfl (by walk_at "lc"))
  (zf (zae (zgQ (zt zlD hr (za (pv 1) (za (pv 7) zd))))
  (zf (zam (zfb PySem.F.plainAttrs_list PySem.F.slot_list_append PySem.F.type_list_append za7 (pv 6) (za (zap (za (pv 7) (za zb (za zb (za zb zd))))) zd))))
  (zc (zk (i:=8) zbk.nd rfl (by walk_at "lc") (zx (zbm rfl) rfl T.zcp PyProof.Rows.boot_max (za zb (za (zi zak (zt zcG hr (za (pv 4) (za (pv 7) zd))) (zt zcG hr (za (pv 5) (za (pv 7) zd)))) zd))))
  (zf (zam (zfb PySem.F.plainAttrs_list PySem.F.slot_list_append PySem.F.type_list_append za7 (pv 6) (za (zap (za (pv 7) (za (zt zcG hr (za (pv 2) (za (pv 7) zd))) (za (zt zcG hr (za (pv 3) (za (pv 7) zd))) (za (pv 8) zd))))) zd))))))))
  (zf (zo (pv 6)))))))))),?_⟩
 have sz:=sizeLine_eq
 nofun
 refine ⟨a,A.dx,_,rfl,B.ins,rfl,a,A,b,rfl,B,fun q1 x1 n1 r1 l1=>?_⟩
 have t1:=ze n1 (.lst x1)
 have e1:=zD (.lst x1) n1
 have r1':=r1.same t1
 generalize upd H q1 (.lst x1)=H1 at t1 e1 r1' ⊢
 have B1:=B.same t1
 nofun
 refine ⟨a,A.dx,_,rfl,B1.ins,rfl,a,A,b,rfl,B1,fun q2 x2 n2 r2 l2=>?_⟩
 have t2:=ze n2 (.lst x2)
 have e2:=zD (.lst x2) n2
 have r2':=r2.same t2
 generalize upd H1 q2 (.lst x2)=H2 at t2 e2 r2' ⊢
 have B2:=B1.same t2
 nofun
 refine ⟨a,A.dx,_,rfl,B2.ins,rfl,a,A,b,rfl,B2,fun q3 x3 n3 r3 l3=>?_⟩
 have t3:=ze n3 (.lst x3)
 have e3:=zD (.lst x3) n3
 have r3':=r3.same t3
 generalize upd H2 q3 (.lst x3)=H3 at t3 e3 r3' ⊢
 have B3:=B2.same t3
 nofun
 first | refine ⟨a,A,b,rfl,B3,fun q4 x4 H4 n4 t4 e4 r4=>?_⟩ | refine ⟨B3,fun q4 x4 H4 n4 t4 e4 r4=>?_⟩
 have B4:=B3.same t4
 nofun
 refine ⟨a,A.dx,_,rfl,B4.ins,rfl,a,A,b,rfl,B4,fun q5 x5 n5 r5 l5=>?_⟩
 have t5:=ze n5 (.lst x5)
 have e5:=zD (.lst x5) n5
 have r5':=r5.same t5
 generalize upd H4 q5 (.lst x5)=H5 at t5 e5 r5' ⊢
 nofun
 rename_i q6 x6 H6
 intro n6 t6 e6 r6
 have t16:=t2.trans (t3.trans (t4.trans (t5.trans t6)))
 have t26:=t3.trans (t4.trans (t5.trans t6))
 have t36:=t4.trans (t5.trans t6)
 have t46:=t5.trans t6
 have s06:=t1.trans t16
 have e16:=t16 _ _ e1
 have r16:=r1'.same t16
 have e26:=t26 _ _ e2
 have r26:=r2'.same t26
 have e36:=t36 _ _ e3
 have r36:=r3'.same t36
 have e46:=t46 _ _ e4
 have r46:=r4.same t46
 clear t16 t26 t36 t46 e1 e2 e3 e4 r1' r2' r3' r4 B1 B2 B3 B4 t1 t2 t3 t4 t5 t6
 nofun
 intro p np
 have s7:=ze np (.lst [])
 have eP:=zD (.lst []) np
 have s07:=s06.trans s7
 have npH:=zM s06 np
 generalize upd H6 p (.lst [])=H7 at s7 eP s07 ⊢
 have B7:=B.same s07
 nofun
 first | refine ⟨a,A,b,rfl,B7,O,fun q8 ds H8 n8 t8 e8 up mem d64=>?_⟩ | refine ⟨B7,O,fun q8 ds H8 n8 t8 e8 up mem d64=>?_⟩
 have s68:=s7.trans t8
 have eP8:=t8 _ _ eP
 have n8p:q8≠p:=(zW eP n8).symm
 have shn:∀ s∈shf b.g b.dues,0<=s.1:=fun s hs=>by
  obtain ⟨u,hu,rfl⟩:=yah.mp hs
  have:=O.dn u hu
  have:=O.g0
  show 0<=u.1+b.g
  ac_rfl
 have kk:∀ (l:List (Int × Int)),((l.map (·.1)).Pairwise (·<·))->(∀ s∈l,0<=s.1)->((runs 0 l).Pairwise fun s t=>s.1<t.1)/\∀ s∈runs 0 l,0<=s.1:=fun l u n=>⟨ztF (by rw[zdy];exact u),fun s hs=>by
  have:s.1∈l.map (·.1):=by rw[<-zdy l 0];exact yay hs
  obtain ⟨v,hv,e⟩:=yah.mp this
  rw[<-e];exact n v hv⟩
 have kA:=kk (shf b.g b.dues) (ztG O.du) shn
 have kP:=kk b.pays O.pu O.pn
 nofun
 refine ⟨⟨_,SqL.of e8⟩,zbH (xs:=ds.map V.int) (fun i σ H'=>∃ (ws:List V) (z1 z2:Option V),(Same H6 H'/\H' p=some (.lst ws)/\H' q8=some (.lst (ds.map V.int)))/\R4 b H' ws (ds.take i)/\σ=[some (.ref a),some (.ref q1),some (.ref q2),some (.ref q3),some (.ref q4),some (.ref q6),some (.ref p),z1,z2])
  ⟨[],_,_,⟨s68,eP8,e8⟩,.nil,rfl⟩ ?_ ?_ ?_⟩
 ·rintro i σ H' _ ⟨ws,z1,z2,⟨_,_,e⟩,_⟩
  exact SqL.of e
 ·rintro i x σ H' hx ⟨ws,z1,z2,⟨sH,eP',e8'⟩,hW,rfl⟩
  rw[yaj] at hx
  obtain ⟨d,hd,rfl⟩:=Option.map_eq_some_iff.mp hx
  have il:i<ds.length:=(yac.mp hd).1
  have wl:=hW.length
  rw[ybe] at wl
  have tk:ds.take (i+1)=ds.take i++[d]:=by rw[ybb,hd];rfl
  have fin:∀ (x1 x2 x3:Int) (G:Hp) (v:Addr),x1=zen b d->x2=zem b d->x3=zdM b d->Same H' G->G v=some (.tup [.int d,.int x1,.int x2,.int x3])->G p=some (.lst ws)->(Same H6 (upd G p (.lst (ws++[.ref v])))/\(upd G p (.lst (ws++[.ref v]))) p=some (.lst (ws++[.ref v]))/\(upd G p (.lst (ws++[.ref v]))) q8=some (.lst (ds.map V.int)))/\R4 b (upd G p (.lst (ws++[.ref v]))) (ws++[.ref v]) (ds.take (i+1)):=fun x1 x2 x3 G v g1 g2 g3 sG ev eG=>by
   subst g1 g2 g3
   refine ⟨⟨zN (sH.trans sG) np,zg,by rw[zr n8p];exact sG _ _ e8'⟩,?_⟩
   rw[tk]
   exact LL.push ((hW.same sG).put eG) ⟨v,rfl,by rw[zr (zau ev eG (by intro z;cases z))];exact ev⟩
  nofun
  refine ⟨q1,x1,b.spans,d,rfl,SqL.of (sH _ _ e16),r16.same sH,O.jn,?_⟩
  cases c:Spans.isIn b.spans d with
  | true =>
   nofun
   refine ⟨.inl ⟨rfl,_,SqL.of eP'⟩,?_⟩
   nofun
   intro v nv
   have sv:=ze nv (.tup [.int d,.int 0,.int 0,.int 0])
   refine ⟨p,_,_,rfl,rfl,sv _ _ eP',by ac_rfl,?_⟩
   obtain ⟨f1,f2⟩:=fin 0 0 0 _ v (by unfold zen;rw[c];rfl) (by unfold zem;rw[c];rfl) (by unfold zdM;rw[c];rfl) sv zg (sv _ _ eP')
   exact ⟨_,_,_,f1,f2,rfl⟩
  | false =>
   nofun
   refine ⟨q4,x4,runs 0 (shf b.g b.dues),d,rfl,SqL.of (sH _ _ e46),r46.same sH,kA.1,kA.2,?_⟩
   rw[zpP (ztG O.du) shn,zuq]
   nofun
   refine ⟨q6,x6,runs 0 b.pays,d,rfl,SqL.of (sH _ _ e6),r6.same sH,kP.1,kP.2,?_⟩
   rw[zpP O.pu O.pn]
   nofun
   refine ⟨.inl ⟨rfl,_,SqL.of eP'⟩,?_⟩
   nofun
   refine ⟨q2,x2,b.rates,d,rfl,SqL.of (sH _ _ e26),r26.same sH,O.ru,fun s hs=>(O.rn s hs).1,?_⟩
   nofun
   refine ⟨q3,x3,b.lates,d,rfl,SqL.of (sH _ _ e36),r36.same sH,O.lu,fun s hs=>(O.ln s hs).1,?_⟩
   nofun
   intro v nv
   have sv:=ze nv (.tup [.int d,.int (Sums.valOf b.rates d),.int (Sums.valOf b.lates d),.int (p0 (upto b.dues (d-b.g)-upto b.pays d))])
   refine ⟨p,_,_,rfl,rfl,sv _ _ eP',by ac_rfl,?_⟩
   obtain ⟨f1,f2⟩:=fin (Sums.valOf b.rates d) (Sums.valOf b.lates d) (p0 (upto b.dues (d-b.g)-upto b.pays d)) _ v (by unfold zen;rw[c];rfl) (by unfold zem;rw[c];rfl) (by unfold zdM;rw[c];rfl) sv zg (sv _ _ eP')
   exact ⟨_,_,_,f1,f2,rfl⟩
 ·rintro σ H' ⟨ws,z1,z2,⟨sH,eP',e8'⟩,hW,rfl⟩
  rw[yab,ycd] at hW
  nofun
  exact h p ws ds H' npH (s06.trans sH) eP' hW up mem (by ac_rfl)
def zlb (K:W.Frag):Sp:=fun vs H Q _=>L2.Ee8 fun p dx t u m n d (q:Q4)=>L2.Aa5 (vs=[.ref p,.ref t]) (Deb K H p dx u m n) ((0<u/\u<1152921504606846976)) (H t=some (.tup [.int d,.int q.1,.int q.2.1,.int q.2.2.1,.int q.2.2.2])) (Q .non (upd H p (.ins (cA K "Debt") dx (zan u (doD u q (m,n)).1 (doD u q (m,n)).2))))
theorem zq1:zj qbd qbd (zh zf5):=by walk_at "sp"
theorem zsi (S:Src K mg "do_deeds" zf5 qbd) (T:Txt K mg) (zhy:zv P w K mg base 3 (cA K "Debt") "lend" qac (zkq K)) (zjm:zv P w K mg base 3 (cA K "Debt") "fee" qac (zk6 K)) (zhO:zv P w K mg base 2 (cA K "Debt") "turn" qaa (zkz K)) (zhJ:zv P w K mg base 3 (cA K "Debt") "take" qac (zjY K)):Def P w K mg base 4 "do_deeds" qbd (zlb K):=by
 exists S.ok,zq1,0
 all_goals obtain ⟨p,dx,t,u,m,n,d,q,rfl,e,hu,ht,h⟩:=h
 ·rfl
 refine ⟨_,(zc (zam (zdr zhy T.zI hr (pv 0) (za (zq zah (pv 1) zb (fun _ _=>rfl)) zd)))
  (zc (zam (zdr zjm T.zI hr (pv 0) (za (zq zah (pv 1) zb (fun _ _=>rfl)) zd)))
  (zc (zae (zu zaf (zq zah (pv 1) zb (fun _ _=>rfl)) zb (nomark _))
  (zf (zam (zQ zhO T.zI hr (pv 0))))
   zS)
  (zf (zam (zdr zhJ T.zI hr (pv 0) (za (zq zah (pv 1) zb (fun _ _=>rfl)) zd))))))),?_⟩
 obtain ⟨x,f,w,y⟩:=q
 change H t=some (.tup [.int d,.int x,.int f,.int w,.int y]) at ht
 unfold doD at h
 dsimp only at h
 nofun
 refine ⟨p,dx,_,rfl,e,rfl,?_⟩
 nofun
 refine ⟨p,dx,u,m,n,x,rfl,e,hu,?_⟩
 generalize Dbt.step u .lend x m n=s1 at h ⊢
 have e1:Deb K (upd H p (.ins (cA K "Debt") dx (zan u s1.1 s1.2))) p dx u s1.1 s1.2:=zg
 have t1:=zi6 (K:=K) (o:=.ins (cA K "Debt") dx (zan u s1.1 s1.2)) e ht
 nofun
 refine ⟨p,dx,_,rfl,e1,rfl,?_⟩
 nofun
 refine ⟨p,dx,u,_,_,f,rfl,e1,hu,?_⟩
 rw[zZ]
 generalize Dbt.step u .fee f s1.1 s1.2=s2 at h ⊢
 have e2:Deb K (upd H p (.ins (cA K "Debt") dx (zan u s2.1 s2.2))) p dx u s2.1 s2.2:=zg
 have t2:=zi6 (K:=K) (o:=.ins (cA K "Debt") dx (zan u s2.1 s2.2)) e ht
 clear e1 t1
 nofun
 ·rename_i c
  rw[if_pos c] at h
  refine ⟨p,dx,_,rfl,e2,rfl,p,dx,u,_,_,rfl,e2,hu,?_⟩
  rw[zZ]
  generalize Dbt.step u .turn 0 s2.1 s2.2=s3 at h ⊢
  have e3:Deb K (upd H p (.ins (cA K "Debt") dx (zan u s3.1 s3.2))) p dx u s3.1 s3.2:=zg
  have t3:=zi6 (K:=K) (o:=.ins (cA K "Debt") dx (zan u s3.1 s3.2)) e ht
  nofun
  refine ⟨p,dx,_,rfl,e3,rfl,?_⟩
  nofun
  refine ⟨p,dx,u,_,_,y,rfl,e3,hu,?_⟩
  rw[zZ]
  exact h
 ·rename_i c
  rw[if_neg c] at h
  refine ⟨p,dx,_,rfl,e2,rfl,?_⟩
  nofun
  refine ⟨p,dx,u,_,_,y,rfl,e2,hu,?_⟩
  rw[zZ]
  exact h
noncomputable def Uk:Kd->Int->Int
 | .plain,d=>d
 | .bank,d=>d
 | .thirty,d=>Cnt.UT d
 | .exact,d=>Cnt.UE d
theorem zvI {kd:Kd} {a b:Int} (h0:0<=a) (ab:a<=b):Uk kd a<=Uk kd b:=by
 cases kd with
 | plain=>exact ab
 | bank=>exact ab
 | thirty=>exact Cnt.zwj h0 ab
 | exact=>exact Cnt.zvZ h0 ab
theorem zsB {kd:Kd} {d:Int} (h0:0<=d) (h1:d<=1000000):-1<=Uk kd d/\Uk kd d<=1000000000:=by
 cases kd with
 | plain=>exact ⟨by show -1<=d;omega,by show d<=1000000000;omega⟩
 | bank=>exact ⟨by show -1<=d;omega,by show d<=1000000000;omega⟩
 | thirty=>exact Cnt.zvc h0 h1
 | exact=>exact Cnt.zvn h0 h1
def zfj (kd:Kd) (K:W.Frag):Sp:=fun vs H Q _=>∃ a d,vs=[.ref a,.int d]/\zb5 K H a kd/\Q (.int (Uk kd d)) H
theorem znM:zj qab qab (zh zbW):=by walk_at "sp"
theorem zka (kd:Kd) (hk:kd=.plain\/kd=.bank) (S:zp K (cA K kd.cls) "upto" "Count.upto" zbW qab) (T:Txt K mg)  : zv P w K mg base 4 (cA K kd.cls) "upto" qab (zfj kd K):=by
 exists S.ok,znM,0
 all_goals obtain ⟨a,d,rfl,hc,h⟩:=h
 ·rfl
 refine ⟨_,(zf (zo (pv 1))),?_⟩
 rcases hk with rfl | rfl
 ·nofun
  exact h
 ·nofun
  exact h
theorem zel:zj ["self", "day", "date", "months"] qab (zh zc8):=by walk_at "sp"
theorem znW (kd:Kd) (hk:kd=.thirty) (S:zp K (cA K kd.cls) "upto" "Thirty.upto" zc8 qab) (T:Txt K mg) (zkb:Def P w K mg base 3 "date_of" qan (zmk K)):zv P w K mg base 4 (cA K kd.cls) "upto" qab (zfj kd K):=by
 subst hk
 exists S.okF,zel,0
 all_goals obtain ⟨a,d,rfl,hc,h⟩:=h
 ·rfl
 refine ⟨_,(zc (zk (i:=2) zel.nd rfl (by walk_at "lc") (zt zkb hr (za (pv 1) zd)))
  (zc (zk (i:=3) zel.nd rfl (by walk_at "lc") (zi zak (zi zz (zi zaj zb (zi zak (zq zah (pv 2) zb (fun _ _=>rfl)) (zcK T.zbS))) (zq zah (pv 2) zb (fun _ _=>rfl))) zb))
  (zf (zo (zi zak (zi zz (zi zaj zb (pv 3)) (zx (za8 rfl) rfl T.zcM PyProof.Rows.boot_min (za (zq zah (pv 2) zb (fun _ _=>rfl)) (za zb zd)))) zb))))),?_⟩
 nofun
 intro y m r p D e np
 have s1:=ze np (.tup [.int y,.int m,.int r])
 have t1:(upd H p (.tup [.int y,.int m,.int r])) p=some (.tup [.int y,.int m,.int r]):=zg
 generalize upd H p (.tup [.int y,.int m,.int r])=H1 at s1 t1 ⊢
 nofun
 have e1:Uk .thirty d=30*(12*(y-2000)+m-1)+(if 30<r then 30 else r)-1:=Cnt.zl8 ⟨y,m,r,D,e,rfl⟩
 rw[e1] at h
 first | exact h | exact ⟨s1,h⟩
theorem zfQ:zj ["self", "day", "year", "each"] qab (zh zd3):=by walk_at "sp"
theorem zpf (kd:Kd) (hk:kd=.exact) (S:zp K (cA K kd.cls) "upto" "Exact.upto" zd3 qab) (T:Txt K mg) (zdu:Def P w K mg base 2 "year_of" qan (zi0 K)) (zdt:Def P w K mg base 1 "is_leap" qah (zjd K)) (zb1:∀ kd:Kd,zv P w K mg base 1 (cA K kd.cls) "year" qaa (zcw kd K)) (zbj:Def P w K mg base 1 "new_year" qah (zfc K)):zv P w K mg base 4 (cA K kd.cls) "upto" qab (zfj kd K):=by
 subst hk
 exists S.ok,zfQ,0
 all_goals obtain ⟨a,d,rfl,hc,h⟩:=h
 ·rfl
 refine ⟨_,(zc (zk (i:=2) zfQ.nd rfl (by walk_at "lc") (zt zdu hr (za (pv 1) zd)))
  (zc (zk (i:=3) zfQ.nd rfl (by walk_at "lc") (zpO (zgQ (zt zdt hr (za (pv 2) zd))) zb zb))
  (zf (zo (zi zz (zi zaj (zj5 zb1 T.cls hr (pv 0)) (zi zak (pv 2) (zcK T.zbS))) (zi zaj (pv 3) (zi zak (pv 1) (zt zbj hr (za (pv 2) zd))))))))),?_⟩
 nofun
 intro y h1 h2
 have e1:Uk .exact d=365*366*(y-2000)+Cnt.each y*(d-Cal.ny y):=Cnt.zl9 ⟨y,h1,h2,rfl⟩
 nofun
 cases lp:Cal.leap y with
 | true =>
  have ee:Cnt.each y=365:=by unfold Cnt.each;rw[lp];rfl
  rw[ee] at e1
  rw[e1] at h
  nofun
  refine ⟨.exact,a,rfl,hc,?_⟩
  nofun
  exact h
 | false =>
  have ee:Cnt.each y=366:=by unfold Cnt.each;rw[lp];rfl
  rw[ee] at e1
  rw[e1] at h
  nofun
  refine ⟨.exact,a,rfl,hc,?_⟩
  nofun
  exact h
noncomputable def bG (c:Addr) (g:Int) (qs:List Addr):List (Str × V):=("own_count", V.ref c)::("own_grace", V.int g)::List.zipWith (fun (n:Str) q=>(n,V.ref q)) ["own_entries", "out_sums", "fee_sums", "pay_sums", "turn_days", "rate_rows", "late_rows", "spans", "due_sums"] qs
def zkm (K:W.Frag):Sp:=fun vs H Q _=>L2.Ee9 fun a dx c p kd g xs (es:List Er) G=>L2.zuP (vs=[.ref a,.ref c,.int g,.ref p]) (H a=some (.ins (cA K "Book") dx [])) ((G a=none/\Same G H)) (zb5 K G c kd) ((0<=g/\g<=366)) (SqL K G p xs) (EL K G xs es) (es.length<=61) ((∀ e∈es,0<=e.2.1)) (∀ A (b:BkT) H',Same G H'->zbd K H' a A b->zbf b->b.kd=kd->b.g=g->b.es=es->Q .non H')
theorem zkH {r l:List (Int × Int)} (T:Sby.Tab r l):r.length<=l.length:=by
 have:=zgl (Sby.zeb T.up) fun k hk=>(T.mem k).mp hk
 rw[yab,yab] at this
 exact this
theorem zqa:zj qbe qbe (zh zeK):=by walk_at "sp"
theorem zqP (S:zp K (cA K "Book") "__init__" "Book.__init__" zeK qbe) (T:Txt K mg) (zfx:Def P w K mg base 3 "check_terms" qbb (ziy K)) (zcu:Def P w K mg base 2 "sum_by" qae (zjL K)) (zko:Def P w K mg base 2 "days_of" qae (zmm K)) (zdJ:Def P w K mg base 2 "rate_table" qae (zjA K)) (zft:Def P w K mg base 2 "still_spans" qbl (ziB K)) (zfp:Def P w K mg base 3 "fallen_dues" qbc (zit K)):zv P w K mg base 4 (cA K "Book") "__init__" qbe (zkm K):=by
 exists S.ok,zqa,0
 all_goals obtain ⟨a,dx,c,p,kd,g,xs,es,G,rfl,ea,⟨na,sG⟩,hc,hg,hp,hE,hl,e0,h⟩:=h
 ·rfl
 refine ⟨_,(zc (zam (zt zfx hr (za (pv 1) (za (pv 2) zd))))
  (zc (zae (zu zkE (zx zaI rfl T.zdd PySem.boot_len (za (pv 3) zd)) (zcK T.zeo) (nomark _))
   zj8
   zS)
  (zc (zax T.zF T.zbM (pv 0) (pv 1))
  (zc (zax T.zF T.zbJ (pv 0) (pv 2))
  (zc (zax T.zF T.zco (pv 0) (zT zaU rfl T.zcv PyProof.Rows.boot_list (za (pv 3) zd)))
  (zc (zax T.zF T.zbx (pv 0) (zt zcu hr (za (pv 3) (za zy zd))))
  (zc (zax T.zF T.zbt (pv 0) (zt zcu hr (za (pv 3) (za zy zd))))
  (zc (zax T.zF T.zbw (pv 0) (zt zcu hr (za (pv 3) (za zy zd))))
  (zc (zax T.zF T.zbg (pv 0) (zt zko hr (za (pv 3) (za zy zd))))
  (zc (zax T.zF T.zbO (pv 0) (zt zdJ hr (za (pv 3) (za zy zd))))
  (zc (zax T.zF T.zbP (pv 0) (zt zdJ hr (za (pv 3) (za zy zd))))
  (zc (zax T.zF T.zci (pv 0) (zt zft hr (za (pv 3) zd)))
  (zf (zax T.zF T.zca (pv 0) (zt zfp hr (za (pv 3) (za (zab T.zF T.zci (pv 0)) zd))))))))))))))))),?_⟩
 have sz:=sizeLine_eq
 have xl:=hE.length
 have pl:∀ w,(prs w es).length<=61:=fun w=>yde ziC hl
 nofun
 refine ⟨c,kd,g,rfl,hc.same sG,hg,?_⟩
 have hp0:=sG.seq hp
 nofun
 ·ac_rfl
 refine ⟨a,dx,[],rfl,ea,by decide,?_⟩
 rw[show zaM ("own_count" : Str) (V.ref c) ([]:List (Str × V))=([("own_count", V.ref c)]:List (Str × V)) from rfl]
 nofun
 refine ⟨a,dx,_,rfl,zg,ydc (ycz 1) (by decide),?_⟩
 rw[show zaM ("own_grace" : Str) (V.int g) ([("own_count", V.ref c)]:List (Str × V))=(bG c g []) from rfl]
 rw[zZ]
 have e2:upd H a (.ins (cA K "Book") dx (bG c g [])) a=some (.ins (cA K "Book") dx (bG c g [])):=zg
 have s2:Same G (upd H a (.ins (cA K "Book") dx (bG c g []))):=zN sG na
 generalize upd H a (.ins (cA K "Book") dx (bG c g []))=H2 at e2 s2 ⊢
 nofun
 refine ⟨p,xs,rfl,.inl (s2.seq hp),fun q3 n3=>?_⟩
 have t3:=ze n3 (.lst xs)
 have z3:=zD (.lst xs) n3
 have c3:=t3 _ _ e2
 nofun
 refine ⟨a,dx,_,rfl,c3,ydc (ycz 2) (by decide),?_⟩
 rw[show zaM ("own_entries" : Str) (V.ref q3) (bG c g [])=(bG c g [q3]) from rfl]
 have k3:Same (wo H2 a) (wo (upd (upd H2 q3 (.lst xs)) a (.ins (cA K "Book") dx (bG c g [q3]))) a):=zcO t3
 have s3:Same G (upd (upd H2 q3 (.lst xs)) a (.ins (cA K "Book") dx (bG c g [q3]))):=zN (s2.trans t3) na
 have e3:(upd (upd H2 q3 (.lst xs)) a (.ins (cA K "Book") dx (bG c g [q3]))) a=some (.ins (cA K "Book") dx (bG c g [q3])):=zg
 have L3:wo (upd (upd H2 q3 (.lst xs)) a (.ins (cA K "Book") dx (bG c g [q3]))) a q3=some (.lst xs):=by rw[zc0];exact zpu z3 c3
 generalize upd (upd H2 q3 (.lst xs)) a (.ins (cA K "Book") dx (bG c g [q3]))=H3 at k3 s3 e3 L3 ⊢
 nofun
 refine ⟨p,xs,es, "out", rfl,s3.seq hp,hE.same s3,hl,.inl rfl,fun q4 G4 w4 r4 n4 t4 z4 R4 T4=>?_⟩
 have c4:=t4 _ _ e3
 nofun
 refine ⟨a,dx,_,rfl,c4,ydc (ycz 3) (by decide),?_⟩
 rw[show zaM ("out_sums" : Str) (V.ref q4) (bG c g [q3])=(bG c g [q3,q4]) from rfl]
 have k4:Same (wo H3 a) (wo (upd G4 a (.ins (cA K "Book") dx (bG c g [q3,q4]))) a):=zcO t4
 have s4:Same G (upd G4 a (.ins (cA K "Book") dx (bG c g [q3,q4]))):=zN (s3.trans t4) na
 have e4:(upd G4 a (.ins (cA K "Book") dx (bG c g [q3,q4]))) a=some (.ins (cA K "Book") dx (bG c g [q3,q4])):=zg
 have L4:LP K (wo (upd G4 a (.ins (cA K "Book") dx (bG c g [q3,q4]))) a) q4 r4:=by rw[zc0];exact LP.wo ⟨w4,z4,R4,(by have:=zkH T4;have:=pl "out";ac_rfl)⟩ c4
 generalize upd G4 a (.ins (cA K "Book") dx (bG c g [q3,q4]))=H4 at k4 s4 e4 L4 ⊢
 nofun
 refine ⟨p,xs,es, "fee", rfl,s4.seq hp,hE.same s4,hl,.inr (.inl rfl),fun q5 G5 w5 r5 n5 t5 z5 R5 T5=>?_⟩
 have c5:=t5 _ _ e4
 nofun
 refine ⟨a,dx,_,rfl,c5,ydc (ycz 4) (by decide),?_⟩
 rw[show zaM ("fee_sums" : Str) (V.ref q5) (bG c g [q3,q4])=(bG c g [q3,q4,q5]) from rfl]
 have k5:Same (wo H4 a) (wo (upd G5 a (.ins (cA K "Book") dx (bG c g [q3,q4,q5]))) a):=zcO t5
 have s5:Same G (upd G5 a (.ins (cA K "Book") dx (bG c g [q3,q4,q5]))):=zN (s4.trans t5) na
 have e5:(upd G5 a (.ins (cA K "Book") dx (bG c g [q3,q4,q5]))) a=some (.ins (cA K "Book") dx (bG c g [q3,q4,q5])):=zg
 have L5:LP K (wo (upd G5 a (.ins (cA K "Book") dx (bG c g [q3,q4,q5]))) a) q5 r5:=by rw[zc0];exact LP.wo ⟨w5,z5,R5,(by have:=zkH T5;have:=pl "fee";ac_rfl)⟩ c5
 generalize upd G5 a (.ins (cA K "Book") dx (bG c g [q3,q4,q5]))=H5 at k5 s5 e5 L5 ⊢
 nofun
 refine ⟨p,xs,es, "pay", rfl,s5.seq hp,hE.same s5,hl,.inr (.inr (.inl rfl)),fun q6 G6 w6 r6 n6 t6 z6 R6 T6=>?_⟩
 have c6:=t6 _ _ e5
 nofun
 refine ⟨a,dx,_,rfl,c6,ydc (ycz 5) (by decide),?_⟩
 rw[show zaM ("pay_sums" : Str) (V.ref q6) (bG c g [q3,q4,q5])=(bG c g [q3,q4,q5,q6]) from rfl]
 have k6:Same (wo H5 a) (wo (upd G6 a (.ins (cA K "Book") dx (bG c g [q3,q4,q5,q6]))) a):=zcO t6
 have s6:Same G (upd G6 a (.ins (cA K "Book") dx (bG c g [q3,q4,q5,q6]))):=zN (s5.trans t6) na
 have e6:(upd G6 a (.ins (cA K "Book") dx (bG c g [q3,q4,q5,q6]))) a=some (.ins (cA K "Book") dx (bG c g [q3,q4,q5,q6])):=zg
 have L6:LP K (wo (upd G6 a (.ins (cA K "Book") dx (bG c g [q3,q4,q5,q6]))) a) q6 r6:=by rw[zc0];exact LP.wo ⟨w6,z6,R6,(by have:=zkH T6;have:=pl "pay";ac_rfl)⟩ c6
 generalize upd G6 a (.ins (cA K "Book") dx (bG c g [q3,q4,q5,q6]))=H6 at k6 s6 e6 L6 ⊢
 nofun
 refine ⟨p,xs,es, "turn", rfl,s6.seq hp,hE.same s6,hl,fun q7 G7 r7 n7 t7 z7 T7=>?_⟩
 have c7:=t7 _ _ e6
 nofun
 refine ⟨a,dx,_,rfl,c7,ydc (ycz 6) (by decide),?_⟩
 rw[show zaM ("turn_days" : Str) (V.ref q7) (bG c g [q3,q4,q5,q6])=(bG c g [q3,q4,q5,q6,q7]) from rfl]
 have k7:Same (wo H6 a) (wo (upd G7 a (.ins (cA K "Book") dx (bG c g [q3,q4,q5,q6,q7]))) a):=zcO t7
 have s7:Same G (upd G7 a (.ins (cA K "Book") dx (bG c g [q3,q4,q5,q6,q7]))):=zN (s6.trans t7) na
 have e7:(upd G7 a (.ins (cA K "Book") dx (bG c g [q3,q4,q5,q6,q7]))) a=some (.ins (cA K "Book") dx (bG c g [q3,q4,q5,q6,q7])):=zg
 have L7:wo (upd G7 a (.ins (cA K "Book") dx (bG c g [q3,q4,q5,q6,q7]))) a q7=some (.lst (r7.map V.int)):=by rw[zc0];exact zpu z7 c7
 generalize upd G7 a (.ins (cA K "Book") dx (bG c g [q3,q4,q5,q6,q7]))=H7 at k7 s7 e7 L7 ⊢
 nofun
 refine ⟨p,xs,es, "rate", rfl,s7.seq hp,hE.same s7,hl,.inl rfl,e0,fun q8 G8 w8 r8 n8 t8 z8 R8 T8 T8' y8=>?_⟩
 have c8:=t8 _ _ e7
 nofun
 refine ⟨a,dx,_,rfl,c8,ydc (ycz 7) (by decide),?_⟩
 rw[show zaM ("rate_rows" : Str) (V.ref q8) (bG c g [q3,q4,q5,q6,q7])=(bG c g [q3,q4,q5,q6,q7,q8]) from rfl]
 have k8:Same (wo H7 a) (wo (upd G8 a (.ins (cA K "Book") dx (bG c g [q3,q4,q5,q6,q7,q8]))) a):=zcO t8
 have s8:Same G (upd G8 a (.ins (cA K "Book") dx (bG c g [q3,q4,q5,q6,q7,q8]))):=zN (s7.trans t8) na
 have e8:(upd G8 a (.ins (cA K "Book") dx (bG c g [q3,q4,q5,q6,q7,q8]))) a=some (.ins (cA K "Book") dx (bG c g [q3,q4,q5,q6,q7,q8])):=zg
 have L8:LP K (wo (upd G8 a (.ins (cA K "Book") dx (bG c g [q3,q4,q5,q6,q7,q8]))) a) q8 r8:=by rw[zc0];exact LP.wo ⟨w8,z8,R8,(by ac_rfl)⟩ c8
 generalize upd G8 a (.ins (cA K "Book") dx (bG c g [q3,q4,q5,q6,q7,q8]))=H8 at k8 s8 e8 L8 ⊢
 nofun
 refine ⟨p,xs,es, "late", rfl,s8.seq hp,hE.same s8,hl,.inr rfl,e0,fun q9 G9 w9 r9 n9 t9 z9 R9 T9 T9' y9=>?_⟩
 have c9:=t9 _ _ e8
 nofun
 refine ⟨a,dx,_,rfl,c9,ydc (ycz 8) (by decide),?_⟩
 rw[show zaM ("late_rows" : Str) (V.ref q9) (bG c g [q3,q4,q5,q6,q7,q8])=(bG c g [q3,q4,q5,q6,q7,q8,q9]) from rfl]
 have k9:Same (wo H8 a) (wo (upd G9 a (.ins (cA K "Book") dx (bG c g [q3,q4,q5,q6,q7,q8,q9]))) a):=zcO t9
 have s9:Same G (upd G9 a (.ins (cA K "Book") dx (bG c g [q3,q4,q5,q6,q7,q8,q9]))):=zN (s8.trans t9) na
 have e9:(upd G9 a (.ins (cA K "Book") dx (bG c g [q3,q4,q5,q6,q7,q8,q9]))) a=some (.ins (cA K "Book") dx (bG c g [q3,q4,q5,q6,q7,q8,q9])):=zg
 have L9:LP K (wo (upd G9 a (.ins (cA K "Book") dx (bG c g [q3,q4,q5,q6,q7,q8,q9]))) a) q9 r9:=by rw[zc0];exact LP.wo ⟨w9,z9,R9,(by ac_rfl)⟩ c9
 generalize upd G9 a (.ins (cA K "Book") dx (bG c g [q3,q4,q5,q6,q7,q8,q9]))=H9 at k9 s9 e9 L9 ⊢
 nofun
 refine ⟨p,xs,es,rfl,s9.seq hp,hE.same s9,hl,fun q10 G10 w10 r10 n10 t10 z10 R10 J10 V10 y10=>?_⟩
 have c10:=t10 _ _ e9
 nofun
 refine ⟨a,dx,_,rfl,c10,ydc (ycz 9) (by decide),?_⟩
 rw[show zaM ("spans" : Str) (V.ref q10) (bG c g [q3,q4,q5,q6,q7,q8,q9])=(bG c g [q3,q4,q5,q6,q7,q8,q9,q10]) from rfl]
 have k10:Same (wo H9 a) (wo (upd G10 a (.ins (cA K "Book") dx (bG c g [q3,q4,q5,q6,q7,q8,q9,q10]))) a):=zcO t10
 have s10:Same G (upd G10 a (.ins (cA K "Book") dx (bG c g [q3,q4,q5,q6,q7,q8,q9,q10]))):=zN (s9.trans t10) na
 have e10:(upd G10 a (.ins (cA K "Book") dx (bG c g [q3,q4,q5,q6,q7,q8,q9,q10]))) a=some (.ins (cA K "Book") dx (bG c g [q3,q4,q5,q6,q7,q8,q9,q10])):=zg
 have L10:LP K (wo (upd G10 a (.ins (cA K "Book") dx (bG c g [q3,q4,q5,q6,q7,q8,q9,q10]))) a) q10 r10:=by rw[zc0];exact LP.wo ⟨w10,z10,R10,(by ac_rfl)⟩ c10
 generalize upd G10 a (.ins (cA K "Book") dx (bG c g [q3,q4,q5,q6,q7,q8,q9,q10]))=H10 at k10 s10 e10 L10 ⊢
 nofun
 refine ⟨a,dx,_,_,rfl,e10,rfl,?_⟩
 nofun
 obtain ⟨w10',z10',R10',_⟩:=L10.same zck
 refine ⟨p,q10,xs,w10',es,r10,rfl,s10.seq hp,hE.same s10,hl,⟨SqL.of z10',R10',J10⟩,fun q11 G11 w11 r11 n11 t11 z11 R11 T11=>?_⟩
 rw[zrP V10] at T11
 have c11:=t11 _ _ e10
 nofun
 refine ⟨a,dx,_,rfl,c11,ydc (ycz 10) (by decide),?_⟩
 rw[show zaM ("due_sums" : Str) (V.ref q11) (bG c g [q3,q4,q5,q6,q7,q8,q9,q10])=(bG c g [q3,q4,q5,q6,q7,q8,q9,q10,q11]) from rfl]
 have k11:Same (wo H10 a) (wo (upd G11 a (.ins (cA K "Book") dx (bG c g [q3,q4,q5,q6,q7,q8,q9,q10,q11]))) a):=zcO t11
 have s11:Same G (upd G11 a (.ins (cA K "Book") dx (bG c g [q3,q4,q5,q6,q7,q8,q9,q10,q11]))):=zN (s10.trans t11) na
 have e11:(upd G11 a (.ins (cA K "Book") dx (bG c g [q3,q4,q5,q6,q7,q8,q9,q10,q11]))) a=some (.ins (cA K "Book") dx (bG c g [q3,q4,q5,q6,q7,q8,q9,q10,q11])):=zg
 have L11:LP K (wo (upd G11 a (.ins (cA K "Book") dx (bG c g [q3,q4,q5,q6,q7,q8,q9,q10,q11]))) a) q11 r11:=by rw[zc0];exact LP.wo ⟨w11,z11,R11,(by have:=zkH T11;have:(mvp (mvd (prs "still" es)) (prs "due" es)).length=(prs "due" es).length:=yab ..;have:=pl "due";ac_rfl)⟩ c11
 generalize upd G11 a (.ins (cA K "Book") dx (bG c g [q3,q4,q5,q6,q7,q8,q9,q10,q11]))=H11 at k11 s11 e11 L11 ⊢
 nofun
 refine h ⟨dx,c,q3,q4,q5,q6,q7,q8,q9,q10,q11⟩ ⟨kd,g,es,r4,r5,r6,r7,r8,r9,r10,r11⟩ H11 s11 ⟨e11,hc.same s11,⟨xs,(k4.trans (k5.trans (k6.trans (k7.trans (k8.trans (k9.trans (k10.trans (k11.trans zck)))))))) _ _ L3,hE.same s11⟩,L4.same (k5.trans (k6.trans (k7.trans (k8.trans (k9.trans (k10.trans (k11.trans zck))))))),L5.same (k6.trans (k7.trans (k8.trans (k9.trans (k10.trans (k11.trans zck)))))),L6.same (k7.trans (k8.trans (k9.trans (k10.trans (k11.trans zck))))),(k8.trans (k9.trans (k10.trans (k11.trans zck)))) _ _ L7,L8.same (k9.trans (k10.trans (k11.trans zck))),L9.same (k10.trans (k11.trans zck)),L10.same (k11.trans zck),L11.same zck⟩ ⟨T4,T5,T6,T7,⟨T8,T8'⟩,⟨T9,T9'⟩,⟨J10,V10⟩,T11⟩ rfl rfl rfl
def zj2 (K:W.Frag):Sp:=fun vs H Q _=>L2.Ee4 fun r k d x=>L2.Aa4 (vs=[.ref r]) (H r=some (.tup (zb7 k d x))) (k≠.base) (∀ a dx H',Same H H'->H a=none->zkD K H' a dx k d x->Q (.ref a) H')
theorem zdZ:zj ["_law_row_here", "_law_word", "_law_day", "_law_value_here"] qbr (zh zeP):=by walk_at "sp"
theorem zqS (S:Src K mg "_law_made" zeP qbr) (T:Txt K mg) (ziH:zv P w K mg base 2 (cA K "Out") "__init__" qai (zaV K)) (ziQ:zv P w K mg base 2 (cA K "Fee") "__init__" qai (zaV K)) (zhF:zv P w K mg base 1 (cA K "Turn") "__init__" qab (zbB K)) (ziW:zv P w K mg base 2 (cA K "Pay") "__init__" qai (zaV K)) (zjj:zv P w K mg base 2 (cA K "Due") "__init__" qai (zaV K)) (zh9:zv P w K mg base 2 (cA K "Rate") "__init__" qar (zcX K)) (zhH:zv P w K mg base 2 (cA K "Late") "__init__" qar (zcX K)) (zgU:zv P w K mg base 2 (cA K "Still") "__init__" qaz (zjE K)):Def P w K mg base 4 "_law_made" qbr (zj2 K):=by
 exists S.ok,zdZ,0
 all_goals obtain ⟨r,k,d,x,rfl,e,h2,h⟩:=h
 ·rfl
 refine ⟨_,(zc (zfl (pv 0) (zch rfl (zH (zC (i:=1) zdZ.nd rfl (by walk_at "lc")) (zH (zC (i:=2) zdZ.nd rfl (by walk_at "lc")) (zH (zC (i:=3) zdZ.nd rfl (by walk_at "lc")) zbz)))))
  (zc (zae (zu zaf (pv 1) zy (nomark _))
  (zf (zo (zbv T.zpq ziH hr T.zsj (za (pv 2) (za (pv 3) zd)))))
   zS)
  (zc (zae (zu zaf (pv 1) zy (nomark _))
  (zf (zo (zbv T.zqf ziQ hr T.zsm (za (pv 2) (za (pv 3) zd)))))
   zS)
  (zc (zae (zu zaf (pv 1) zy (nomark _))
  (zf (zo (zbv T.zmT zhF hr T.zoT (za (pv 2) zd))))
   zS)
  (zc (zae (zu zaf (pv 1) zy (nomark _))
  (zf (zo (zbv T.zoS ziW hr T.zsg (za (pv 2) (za (pv 3) zd)))))
   zS)
  (zc (zae (zu zaf (pv 1) zy (nomark _))
  (zf (zo (zbv T.zpe zjj hr T.zsd (za (pv 2) (za (pv 3) zd)))))
   zS)
  (zc (zae (zu zaf (pv 1) zy (nomark _))
  (zf (zo (zbv T.zm3 zh9 hr T.zpw (za (pv 2) (za (pv 3) zd)))))
   zS)
  (zc (zae (zu zaf (pv 1) zy (nomark _))
  (zf (zo (zbv T.zmQ zhH hr T.zp8 (za (pv 2) (za (pv 3) zd)))))
   zS)
  (zf (zo (zbv T.zll zgU hr T.zng (za (pv 2) (za (pv 3) zd))))))))))))),?_⟩
 cases k with
 | base=>exact absurd rfl h2
 | turn =>
  dsimp only [zb7,Ek.word] at e
  nofun
  refine ⟨r,_,rfl,SqT.of e,rfl,?_⟩
  nofun
  intro a dx na nd ne
  refine ⟨a,_,dx,[],d,rfl,zg,T.clE .turn,T.zbo .turn,by decide,rfl,?_⟩
  rw[zZ]
  exact h a dx _ ((ze nd _).trans (ze (by rw[zr ne.symm];exact na) _)) na zg
 | out =>
  dsimp only [zb7,Ek.word] at e
  nofun
  refine ⟨r,_,rfl,SqT.of e,rfl,?_⟩
  nofun
  intro a dx na nd ne
  refine ⟨a,_,dx,d,x,rfl,zg,T.clE .out,T.zbo .out,T.zdV .out,rfl,?_⟩
  rw[zZ]
  nofun
  exact h a dx _ ((ze nd _).trans (ze (by rw[zr ne.symm];exact na) _)) na zg
 | fee =>
  dsimp only [zb7,Ek.word] at e
  nofun
  refine ⟨r,_,rfl,SqT.of e,rfl,?_⟩
  nofun
  intro a dx na nd ne
  refine ⟨a,_,dx,d,x,rfl,zg,T.clE .fee,T.zbo .fee,T.zdV .fee,rfl,?_⟩
  rw[zZ]
  nofun
  exact h a dx _ ((ze nd _).trans (ze (by rw[zr ne.symm];exact na) _)) na zg
 | pay =>
  dsimp only [zb7,Ek.word] at e
  nofun
  refine ⟨r,_,rfl,SqT.of e,rfl,?_⟩
  nofun
  intro a dx na nd ne
  refine ⟨a,_,dx,d,x,rfl,zg,T.clE .pay,T.zbo .pay,T.zdV .pay,rfl,?_⟩
  rw[zZ]
  nofun
  exact h a dx _ ((ze nd _).trans (ze (by rw[zr ne.symm];exact na) _)) na zg
 | due =>
  dsimp only [zb7,Ek.word] at e
  nofun
  refine ⟨r,_,rfl,SqT.of e,rfl,?_⟩
  nofun
  intro a dx na nd ne
  refine ⟨a,_,dx,d,x,rfl,zg,T.clE .due,T.zbo .due,T.zdV .due,rfl,?_⟩
  rw[zZ]
  nofun
  exact h a dx _ ((ze nd _).trans (ze (by rw[zr ne.symm];exact na) _)) na zg
 | rate =>
  dsimp only [zb7,Ek.word] at e
  nofun
  refine ⟨r,_,rfl,SqT.of e,rfl,?_⟩
  nofun
  intro a dx na nd ne
  refine ⟨a,_,dx,d,x,rfl,zg,T.clE .rate,T.zbo .rate,T.zlp .rate,rfl,?_⟩
  rw[zZ]
  nofun
  exact h a dx _ ((ze nd _).trans (ze (by rw[zr ne.symm];exact na) _)) na zg
 | late =>
  dsimp only [zb7,Ek.word] at e
  nofun
  refine ⟨r,_,rfl,SqT.of e,rfl,?_⟩
  nofun
  intro a dx na nd ne
  refine ⟨a,_,dx,d,x,rfl,zg,T.clE .late,T.zbo .late,T.zlp .late,rfl,?_⟩
  rw[zZ]
  nofun
  exact h a dx _ ((ze nd _).trans (ze (by rw[zr ne.symm];exact na) _)) na zg
 | still =>
  dsimp only [zb7,Ek.word] at e
  nofun
  refine ⟨r,_,rfl,SqT.of e,rfl,?_⟩
  nofun
  intro a dx na nd ne
  refine ⟨a,_,dx,d,x,rfl,zg,T.clE .still,T.zbo .still,T.zj9 .still,rfl,?_⟩
  rw[zZ]
  nofun
  exact h a dx _ ((ze nd _).trans (ze (by rw[zr ne.symm];exact na) _)) na zg
def KdI (kd:Kd) (k:Int):Prop:=(kd=.plain/\k=0)\/(kd=.bank/\k=1)\/(kd=.thirty/\k=2)\/(kd=.exact/\k=3)
noncomputable def cst:Kd->Int
 | .thirty=>720031
 | .exact=>267180000
 | _=>0
theorem zwP {y m r:Int} (D:Cal.zbD y m r):Cnt.UT (Cal.num y m r)+720031=360*y+30*m+if 30<r then 30 else r:=by
 rw[Cnt.zl8 ⟨y,m,r,D,rfl,rfl⟩]
 omega
theorem zwZ {y m r:Int} (D:Cal.zbD y m r):Cnt.UE (Cal.num y m r)+267180000=133590*y+(366-Cal.lp y)*(Cal.cum y m+r-1):=by
 have c:=Cal.zio (y:=y) D.m1 D.m2
 have e:=Cal.zbU y
 have d1:=D.d1
 have d2:=D.d2
 have n:Cal.num y m r-Cal.ny y=Cal.cum y m+r-1:=by unfold Cal.num;omega
 rw[Cnt.zl9 ⟨y,by unfold Cal.num;omega,by unfold Cal.num;omega,rfl⟩,n]
 have h:Cnt.each y=366-Cal.lp y:=by rcases Cnt.ziw y with z | z <;> omega
 rw[h]
 generalize (366-Cal.lp y)*(Cal.cum y m+r-1)=q
 omega
theorem zoR (y:Int):∀ n:Nat,n<=11->((ybg n).map fun i:Nat=>Cal.mlen y (1+(i:Int))).sum=Cal.cum y ((n:Int)+1)
 | 0,_=>by simp[Cal.cum]
 | n+1,h=>by
  have ih:=zoR y n (by omega)
  rw[ycx,yau,List.sum_append,ih]
  have cs:=@Cal.zgV y ((n:Int)+1) (by omega) (by omega)
  rw[show ((n+1:Nat):Int)+1=(n:Int)+1+1 by omega,cs]
  simp[Int.add_comm]
theorem zwi {xs:List V} {n:Nat} {f:Nat->Int} (hl:xs.length=n) (h:∀ (j:Nat) (v:V),xs[j]?=some v->v=V.int (f j)):xs=((ybg n).map f).map V.int:=by
 refine ybz ?_
 intro j
 by_cases hj:j<n
 ·have e:xs[j]?=some xs[j]:=yaa (by omega)
  rw[e,h j _ e,yaj,yaj,ycc hj]
  rfl
 ·rw[yat (by omega),yat (by simp;omega)]
def zkc (K:W.Frag):Sp:=fun vs H Q _=>∃ kd k d,vs=[.int k,.int d]/\KdI kd k/\0<=d/\Q (.int (Uk kd d+cst kd)) H
theorem zcz:zj ["_law_kind", "_law_day", "_law_year", "_law_month", "_law_at_here", "_law_ahead"] qbs (zh ze2):=by walk_at "sp"
theorem zqB (S:Src K mg "_law_upto" ze2 qbs) (T:Txt K mg) (zhB:Def P w K mg base 3 "_law_date" qbo (zjR K)) (zaB:Def P w K mg base 2 "_law_month_size" qaw (zcx K)) (zaQ:Def P w K mg base 1 "_law_leap" qas (zdG K)):Def P w K mg base 4 "_law_upto" qbs (zkc K):=by
 exists S.okF,zcz,0
 all_goals obtain ⟨kd,k,d,rfl,hk,d0,h⟩:=h
 ·rfl
 refine ⟨_,(zc (zfl (zt zhB hr (za (pv 1) zd)) (zch rfl (zH (zC (i:=2) zcz.nd rfl (by walk_at "lc")) (zH (zC (i:=3) zcz.nd rfl (by walk_at "lc")) (zH (zC (i:=4) zcz.nd rfl (by walk_at "lc")) zbz)))))
  (zc (zae (zu ze3 (pv 0) zb (nomark _))
  (zf (zo (pv 1)))
   zS)
  (zc (zae (zu zaf (pv 0) zb (nomark _))
  (zf (zo (zi zz (zi zz (zi zaj zb (pv 2)) (zi zaj zb (pv 3))) (zx (za8 rfl) rfl T.zcM PyProof.Rows.boot_min (za (pv 4) (za zb zd))))))
   zS)
  (zc (zk (i:=5) zcz.nd rfl (by walk_at "lc") (zi zak (zi zz (zx (zhs rfl) rfl T.zkC PyProof.Rows.boot_sum (za (zbp (ix:=[2]) ⟨rfl,by decide +kernel,rfl,by decide +kernel,rfl,(show (["_law_k", "_law_year"]:List Str).Nodup by decide +kernel),by walk_at "cap", by walk_at "sub", by walk_at "has"⟩ (ztZ rfl T.zdx (za zb (za (pv 3) zd))) (fun b=>(zt zaB hr (za (pv 1) (za (pv 0) zd))))) zd)) (pv 4)) zb))
  (zf (zo (zi zz (zi zaj zb (pv 2)) (zi zaj (zi zak zb (zT zfn rfl T.zhq PyProof.Rows.boot_int (za (zt zaQ hr (za (pv 2) zd)) zd))) (pv 5))))))))),?_⟩
 have sz:=sizeLine_eq
 nofun
 intro y m r p D e np
 have s1:=ze np (.tup [.int y,.int m,.int r])
 have ep:=zD (.tup [.int y,.int m,.int r]) np
 generalize upd H p (.tup [.int y,.int m,.int r])=H1 at s1 ep ⊢
 have m1:=D.m1
 have m2:=D.m2
 nofun
 refine ⟨p,_,rfl,SqT.of ep,rfl,?_⟩
 nofun
 ·rename_i c
  have:Uk kd d+cst kd=d:=by
   rcases hk with ⟨rfl,rfl⟩ | ⟨rfl,rfl⟩ | ⟨rfl,rfl⟩ | ⟨rfl,rfl⟩
   ·exact Int.add_zero d
   ·exact Int.add_zero d
   ·ac_rfl
   ·ac_rfl
  rw[this] at h
  exact h
 ·rename_i c1 c
  have:kd=.thirty:=by rcases hk with ⟨rfl,rfl⟩ | ⟨rfl,rfl⟩ | ⟨rfl,rfl⟩ | ⟨rfl,rfl⟩ <;> first | rfl | ac_rfl
  subst this
  have:=zwP D
  rw[e] at this
  rw[show Uk .thirty d+cst .thirty=360*y+30*m+if 30<r then 30 else r from this] at h
  exact h
 rename_i c1 c2
 have:kd=.exact:=by rcases hk with ⟨rfl,rfl⟩ | ⟨rfl,rfl⟩ | ⟨rfl,rfl⟩ | ⟨rfl,rfl⟩ <;> first | rfl | ac_rfl
 subst this
 intro l hl
 refine zsr (fun i v=>v=.int (Cal.mlen y (1+(i:Int)))) hl (by ac_rfl) ?_ ?_
 ·intro i H' Q' hi hs hq
  nofun
  exact hq _ rfl
 ·intro xs hx hp
  have ex:=zwi hx hp
  have s2:=s1.trans (ze hl (.lst xs))
  nofun
  refine ⟨_,((ybg (m-1).toNat).map fun i:Nat=>Cal.mlen y (1+(i:Int))),rfl,SqL.of (by rw[<-ex];exact zg),?_⟩
  have es:=zoR y (m-1).toNat (by ac_rfl)
  rw[show (((m-1).toNat:Nat):Int)+1=m by ac_rfl] at es
  rw[es]
  have u:=zwZ D
  rw[e] at u
  rw[show Uk .exact d+cst .exact=133590*y+(366-Cal.lp y)*(Cal.cum y m+r-1) from u] at h
  clear es ex hp hx
  generalize upd H1 l (.lst xs)=H2 at s2 ⊢
  nofun
  refine .inr ⟨_,rfl,?_⟩
  have l01:=Cal.zlW y
  rw[show (if Cal.leap y=true then (1:Int) else 0)=Cal.lp y from rfl]
  nofun
  first | exact ⟨s2,h⟩ | exact h
noncomputable def uB (b:BkT):Int:=10000*yr b.kd
abbrev AB (b:BkT):Prop:=zws (Uk b.kd) (uB b) b
noncomputable abbrev zac (b:BkT) (d:Int):Int × Int:=stA (Uk b.kd) (uB b) b d.toNat
def zia (kd:Kd) (K:W.Frag):Sp:=fun vs H Q _=>∃ a x y,vs=[.ref a,.int x,.int y]/\zb5 K H a kd/\Q (.int (Uk kd y-Uk kd x)) H
theorem zmz:zj qam qam (zh zav):=by walk_at "sp"
theorem zcQ (kd:Kd) (hk:kd=.plain\/kd=.bank\/kd=.thirty\/kd=.exact) (S:zp K (cA K kd.cls) "weight" "Count.weight" zav qam) (T:Txt K mg) (zdl:∀ kd:Kd,zv P w K mg base 4 (cA K kd.cls) "upto" qab (zfj kd K)):zv P w K mg base 5 (cA K kd.cls) "weight" qam (zia kd K):=by
 exists S.ok,zmz,0
 all_goals obtain ⟨a,x,y,rfl,hc,h⟩:=h
 ·rfl
 refine ⟨_,(zf (zo (zi zak (zlJ zdl T.cls hr (pv 0) (za (pv 2) zd)) (zlJ zdl T.cls hr (pv 0) (za (pv 1) zd))))),?_⟩
 nofun
 refine ⟨kd,a,rfl,hc,?_⟩
 nofun
 refine ⟨kd,a,rfl,hc,?_⟩
 nofun
 exact h
structure zr7 (ns:List Int) (b:BkT):Prop where
 is:zbf b
 kd:b.kd=kindOf ns
 g:b.g=zaO ns
 len:b.es.length<=16
 ab:AB b
 st:∀ s∈prs "still" b.es,s.1<s.2/\s.2<=1000000
 g0:0<=b.g
 day:∀ e∈b.es,0<=e.2.1
 rt:∀ w:Str,(w = "rate" \/ w = "late")->∀ s∈prs w b.es,0<=s.2/\s.2<=1000000
theorem kdI (ns:List Int):KdI (kindOf ns) (cellAt ns 0 % 4):=by
 unfold kindOf KdI
 have c0:=ydy (cellAt ns 0) (show (4:Int)≠0 by decide)
 have c1:=ydx (cellAt ns 0) (show (0:Int)<4 by decide)
 generalize cellAt ns 0 % 4=c at *
 dsimp only
 rcases (show c=0\/c=1\/c=2\/c=3 by omega) with e | e | e | e <;> subst e <;> simp
def Stt (b:BkT) (L:Int) (ds:List Int) (j:Nat) (P N C:Int):Prop :=
 (∀ x,ds[j]?=some x->(P,N)=stB (Uk b.kd) (uB b) b x.toNat/\N=uB b*cen b.es (x-1)+C)/\(ds[j]?=none->(P,N)=stA (Uk b.kd) (uB b) b L.toNat/\N=uB b*cen b.es L+C)
theorem zvo (kd:Kd) {d:Int} (h0:0<=d) (h1:d<=1000000):-1<=Uk kd d/\Uk kd d<=1000000000:=by
 cases kd with
 | plain=>exact ⟨by show -1<=d;omega,by show d<=1000000000;omega⟩
 | bank=>exact ⟨by show -1<=d;omega,by show d<=1000000000;omega⟩
 | thirty=>exact Cnt.zvc h0 h1
 | exact=>exact Cnt.zvn h0 h1
theorem zt5 {ns:List Int} {b:BkT} {L x y C:Int} {ds:List Int} {j:Nat} {S:Int × Int} (O:zr7 ns b) (E:Edgs b.g b.es L ds) (x0:0<=x) (hx:ds[j]?=some x) (hy:ds[j+1]?=some y) (a1:S=stA (Uk b.kd) (uB b) b x.toNat) (a2:S.2=uB b*cen b.es x+C) :
  Stt b L ds (j+1) S.1 (S.2+(Uk b.kd y-Uk b.kd x)*zcb b.g b.es S.1 x) (C+(Uk b.kd y-Uk b.kd x)*zcb b.g b.es S.1 x):=by
 obtain ⟨f1,f2⟩:=zuw O.is O.ab.ok E x0 hx hy
 refine ⟨fun z hz=>?_,fun z=>(by rw[hy] at z;cases z)⟩
 obtain rfl:y=z:=Option.some.inj (hy.symm.trans hz)
 rw[f1,f2,<-a1]
 exact ⟨rfl,by omega⟩
theorem zuX {b:BkT} {L x P N C:Int} {ds:List Int} {j:Nat} (E:Edgs b.g b.es L ds) (hx:ds[j]?=some x) (hn:ds[j+1]?=none) (a1:(P,N)=stA (Uk b.kd) (uB b) b x.toNat) (a2:N=uB b*cen b.es x+C):Stt b L ds (j+1) P N C:=by
 obtain rfl:=E.last hx hn
 exact ⟨fun z hz=>(by rw[hn] at hz;cases hz),fun _=>⟨a1,a2⟩⟩
def zk2 (K:W.Frag):Sp:=fun vs H Q _=>L2.Ee6 fun p q (ns:List Int) rs (b:BkT) L=>L2.Aa7 (vs=[.ref p,.ref q,.int L]) (SqL K H p (ns.map V.int)) (H q=some (.lst rs)) (RL3 H rs b.es) (zr7 ns b) ((0<=L/\L<=1000000)) (∀ t C H',H t=none->Same H H'->H' t=some (.tup [.int (zac b L).1,.int (zac b L).2,.int C])->(zac b L).2=uB b*cen b.es L+C->Q (.ref t) H')
theorem zY:zj ["_law_script", "_law_rows", "_law_last", "_law_kind", "_law_unit_here", "_law_deeds_here", "_law_principal", "_law_units", "_law_charges", "_law_edges_here", "_law_k", "_law_day", "_law_each", "_law_some"] qap (zh zf7):=by walk_at "sp"
theorem zr6 (S:Src K mg "_law_far" zf7 qap) (T:Txt K mg) (zJ:Def P w K mg base 1 "_law_cell_at" qaq (zbc K)) (zcl:Def P w K mg base 2 "_law_unit" qad (zgE K)) (zdh:Def P w K mg base 2 "_law_all_deeds" qbn (zfU P w K)) (zgm:Def P w K mg base 3 "_law_edges" qap (zjs K)) (zgs:Def P w K mg base 1 "_law_deeds" qbi (zjD K)) (zhk:Def P w K mg base 1 "_law_at" qbj (zl1 K)) (zej:Def P w K mg base 3 "_law_lacking" qbp (zhi K)) (ze6:Def P w K mg base 4 "_law_upto" qbs (zkc K)) (zbC:Def P w K mg base 1 "_law_stands" qaf (zeq K)):Def P w K mg base 5 "_law_far" qap (zk2 K):=by
 exists S.ok,zY,0
 all_goals obtain ⟨p,q,ns,rs,b,L,rfl,hp,hq,hR,O,⟨L0,L1⟩,h⟩:=h
 ·rfl
 refine ⟨_,(zc (zk (i:=3) zY.nd rfl (by walk_at "lc") (zi zL (zt zJ hr (za (pv 0) (za zb zd))) zb))
  (zc (zk (i:=4) zY.nd rfl (by walk_at "lc") (zt zcl hr (za (pv 0) zd)))
  (zc (zk (i:=5) zY.nd rfl (by walk_at "lc") (zt zdh hr (za (pv 1) zd)))
  (zc (zfl (zap (za zb (za zb (za zb zd)))) (zch rfl (zH (zC (i:=6) zY.nd rfl (by walk_at "lc")) (zH (zC (i:=7) zY.nd rfl (by walk_at "lc")) (zH (zC (i:=8) zY.nd rfl (by walk_at "lc")) zbz)))))
  (zc (zk (i:=9) zY.nd rfl (by walk_at "lc") (zt zgm hr (za (pv 0) (za (pv 1) (za (pv 2) zd)))))
  (zc (zbQ PassesOwn.never rfl (zfi rfl T.zdx (za (zx zaI rfl T.zdd PySem.boot_len (za (pv 9) zd)) zd)) (zC (i:=10) zY.nd rfl (by walk_at "lc"))
  (zc (zk (i:=11) zY.nd rfl (by walk_at "lc") (zq zB (pv 9) (pv 10) (fun _ _=>rfl)))
  (zc (zjX (zae (zu zqv (pv 11) (pv 5) (by with_unfolding_all rfl))
  (zf (zfl (zt zgs hr (za (pv 4) (za (pv 6) (za (pv 7) (za (zq zoB (pv 5) (pv 11) (fun _ _=>rfl)) zd))))) (zch rfl (zH (zC (i:=6) zY.nd rfl (by walk_at "lc")) (zH (zC (i:=7) zY.nd rfl (by walk_at "lc")) zbz)))))
   zS))
  (zf (zjX (zae (PW.pt (zee (zu ze3 (zi zz (pv 10) zb) (zx zaI rfl T.zdd PySem.boot_len (za (pv 9) zd)) (nomark _)) (zdv (zpF (zgQ (zt zbC hr (za (pv 1) (za (pv 11) zd))))))))
  (zc (zk (i:=12) zY.nd rfl (by walk_at "lc") (zi zaj (zt zhk hr (za (pv 1) (za zy (za (pv 11) zd)))) (pv 6)))
  (zc (zk (i:=12) zY.nd rfl (by walk_at "lc") (zi zz (pv 12) (zi zaj (zt zhk hr (za (pv 1) (za zy (za (pv 11) zd)))) (zx (za8 rfl) rfl T.zcM PyProof.Rows.boot_min (za (pv 6) (za (zt zej hr (za (pv 0) (za (pv 1) (za (pv 11) zd)))) zd))))))
  (zc (zk (i:=13) zY.nd rfl (by walk_at "lc") (zi zaj (pv 12) (zi zak (zt ze6 hr (za (pv 3) (za (zq zB (pv 9) (zi zz (pv 10) zb) (fun _ _=>rfl)) zd))) (zt ze6 hr (za (pv 3) (za (pv 11) zd))))))
  (zc (zk (i:=8) zY.nd rfl (by walk_at "lc") (zi zz (pv 8) (pv 13)))
  (zf (zk (i:=7) zY.nd rfl (by walk_at "lc") (zi zz (pv 7) (pv 13))))))))
   zS))))))
  (zf (zo (zap (za (pv 6) (za (pv 7) (za (pv 8) zd)))))))))))),?_⟩
 have sz:=sizeLine_eq
 have xl:=hR.length
 have ol:=O.len
 have kd:=kdI ns
 rw[<-O.kd] at kd
 have yi:0<yr b.kd/\yr b.kd<=133590:=by cases b.kd <;> decide
 have u0:0<uB b/\uB b<1152921504606846976:=by unfold uB;ac_rfl
 nofun
 refine ⟨p,ns,0,rfl,hp,?_⟩
 obtain ⟨kn,hkn⟩:∃ kn:Int,kn=cellAt ns 0 % 4:=⟨_,rfl⟩
 nofun
 dsimp only
 rw[<-hkn] at kd ⊢
 clear hkn
 refine ⟨p,ns,rfl,hp,?_⟩
 rw[<-O.kd,show 10000*yr b.kd=uB b from rfl]
 nofun
 rename_i d l H1
 intro nd s1 ed al
 obtain ⟨al,ll⟩:=al
 nofun
 intro t0 nt0
 have s2:=ze nt0 (.tup [.int 0,.int 0,.int 0])
 have e2:=zD (.tup [.int 0,.int 0,.int 0]) nt0
 have ed2:=s2 _ _ ed
 have al2:=al.same s2
 generalize upd H1 t0 (.tup [.int 0,.int 0,.int 0])=H2 at s2 e2 ed2 al2 ⊢
 have s12:=s1.trans s2
 refine ⟨t0,_,rfl,SqT.of e2,rfl,?_⟩
 nofun
 refine ⟨p,q,ns,rs,b.es,L,rfl,s12.seq hp,s12 _ _ hq,hR.same s12,O.len,fun s hs=>(O.st s hs).2,fun le ds H3 nle s3 ee dl E=>?_⟩
 rw[<-O.g] at E
 have s13:=s12.trans s3
 have ed3:=s3 _ _ ed2
 have al3:=al2.same s3
 have hp3:=s13.seq hp
 have hq3:=s13 _ _ hq
 have hR3:=hR.same s13
 have AO:=O.ab.ok
 have x0:∀ x∈ds,0<=x/\x<=1000000:=fun x hx=>by
  obtain ⟨xL,c⟩:=(E.mem x).mp hx
  refine ⟨?_,by ac_rfl⟩
  rcases c with c | c | c | c
  ·ac_rfl
  ·obtain ⟨e,he,rfl⟩:=yah.mp c
   exact O.day e he
  ·obtain ⟨s,hs,rfl⟩:=yah.mp c
   have:=zeJ (P:=fun y=>0<=y) O.day _ s hs
   have:=(O.st s hs).1
   ac_rfl
  ·obtain ⟨s,hs,rfl⟩:=yah.mp c
   have:=zeJ (P:=fun y=>0<=y) O.day _ s hs
   have:=(ziq (prs "still" b.es) s.1).from_
   have:=O.g0
   ac_rfl
 have n0:ds[0]?≠none:=fun z=>by
  have m:=(E.mem L).mpr ⟨ydz _,.inl rfl⟩
  rw[ybw] at z
  have:=ybp m
  ac_rfl
 nofun
 refine ⟨le,_,rfl,.inl (SqL.of ee),?_⟩
 rw[yab]
 refine ⟨_,rfl,by ac_rfl,by ac_rfl,?_⟩
 refine zjS (fun j σ H'=>L2.Ee7 fun (P N C:Int) (z1 z2 z3 z4:Option V)=>(Same H3 H'/\Stt b L ds j P N C)/\σ=[some (.ref p),some (.ref q),some (.int L),some (.int kn),some (.int (uB b)),some (.ref d),some (.int P),some (.int N),some (.int C),some (.ref le),z1,z2,z3,z4])
  ⟨0,0,0,none,none,none,none,⟨Same.refl _,fun x hx=>?_,fun z=>absurd z n0⟩,rfl⟩ ?_ ?_
 ·obtain ⟨f1,f2⟩:=zsZ AO E (x0 x (yae hx)).1 hx
  rw[f1,f2]
  exact ⟨rfl,by ac_rfl⟩
 ·rintro j σ H' hj ⟨P,N,C,z1,z2,z3,z4,⟨sH,St⟩,rfl⟩
  have hj':j<ds.length:=by ac_rfl
  obtain ⟨x,hx⟩:∃ x,ds[j]?=some x:=⟨_,yaa hj'⟩
  have xi:=x0 x (yae hx)
  have hx':(ds.map V.int)[j]?=some (.int x):=by rw[yaj,hx];rfl
  obtain ⟨St1,St2⟩:=St.1 x hx
  have gd:=zlt AO x.toNat
  have ex:((x.toNat:Nat):Int)=x:=by ac_rfl
  nofun
  rw[yea]
  refine ⟨le,_,_,_,rfl,rfl,SqL.of (sH _ _ ee),zaw hx',?_⟩
  nofun
  refine ⟨fun σ' H2=>∃ (P' N':Int),(Same H' H2/\(P',N')=stA (Uk b.kd) (uB b) b x.toNat/\N'=uB b*cen b.es x+C)/\σ'=[some (.ref p),some (.ref q),some (.int L),some (.int kn),some (.int (uB b)),some (.ref d),some (.int P'),some (.int N'),some (.int C),some (.ref le),some (.int j),some (.int x),z3,z4],?_,?_⟩
  ·have sA:stA (Uk b.kd) (uB b) b x.toNat=doD (uB b) (ddE b.es x) (P,N):=by
    rw[St1]
    show doD (uB b) (ddE b.es (x.toNat:Nat)) _=_
    rw[ex]
   have cA:(doD (uB b) (ddE b.es x) (P,N)).2=uB b*cen b.es x+C:=by
    have:=zuh (es:=b.es) (u:=uB b) (k:=x.toNat) (s:=(P,N)) (C:=C) (by rw[ex];exact St2)
    rwa [ex] at this
   nofun
   refine ⟨d,l,x,rfl,rfl,sH _ _ ed3,?_⟩
   rcases al3 x with ⟨_,t,lt,ht⟩ | ⟨nD,ln⟩
   ·rw[lt]
    nofun
    refine ⟨d,l,x,.ref t,rfl,rfl,sH _ _ ed3,lt,?_⟩
    nofun
    refine ⟨t,uB b,P,N,ddE b.es x,rfl,u0,SqT.of (sH _ _ ht),fun a na=>?_⟩
    have s6:=ze na (.tup [.int (doD (uB b) (ddE b.es x) (P,N)).1,.int (doD (uB b) (ddE b.es x) (P,N)).2])
    refine ⟨a,_,rfl,SqT.of zg,rfl,?_⟩
    nofun
    exact ⟨_,_,⟨s6,sA.symm,cA⟩,rfl⟩
   ·rw[ln]
    nofun
    refine ⟨P,N,⟨Same.refl _,?_,?_⟩,rfl⟩
    ·rw[sA,zvj nD,zlK (by rw[<-St1] at gd;exact gd)]
    ·rw[<-cA,zvj nD,zlK (by rw[<-St1] at gd;exact gd)]
  rintro σ' H2 ⟨P',N',⟨s5,a1,a2⟩,rfl⟩
  have sB:=sH.trans s5
  have hp5:=sB.seq hp3
  have hq5:=sB _ _ hq3
  have hR5:=hR3.same sB
  have ee5:=sB _ _ ee
  refine ⟨_,?_,fun _ _ z=>z⟩
  nofun
  refine ⟨le,_,rfl,.inl (SqL.of ee5),?_⟩
  rw[yab]
  nofun
  ·rename_i c
   obtain ⟨y,hy⟩:∃ y,ds[j+1]?=some y:=⟨_,yaa (by ac_rfl)⟩
   have yi:=x0 y (yae hy)
   have nx:=zt5 (S:=(P',N')) (C:=C) O E xi.1 hx hy a1 a2
   refine ⟨q,rs,b.es,x,rfl,hq5,hR5,by ac_rfl,?_⟩
   by_cases st:Spans.isIn (prs "still" b.es) x=true
   ·rw[st]
    nofun
    have z:zcb b.g b.es P' x=0:=by unfold zcb rtE ltE;rw[if_pos st,if_pos st];ac_rfl
    dsimp only at nx
    rw[z,Int.mul_zero,Int.add_zero,Int.add_zero] at nx
    exact ⟨P',N',C,_,_,_,_,⟨sB,nx⟩,rfl⟩
   ·rw[Bool.eq_false_iff.mpr st]
    have vb:∀ w:Str,(w = "rate" \/ w = "late")->0<=Sums.valOf (prs w b.es) x/\Sums.valOf (prs w b.es) x<=1000000:=fun w hw=>zmu (fun s hs=>⟨zeJ (P:=fun y=>0<=y) O.day w s hs,O.rt w hw s hs⟩) x
    have v1:=vb "rate" (.inl rfl)
    have v2:=vb "late" (.inr rfl)
    have dy:zcb b.g b.es P' x=Sums.valOf (prs "rate" b.es) x*P'+Sums.valOf (prs "late" b.es) x*(if lk1 b.g b.es x<P' then lk1 b.g b.es x else P'):=by
     unfold zcb rtE ltE lkE
     rw[if_neg st,if_neg st,if_neg st]
     rfl
    dsimp only at nx
    have uy:=zvo b.kd yi.1 yi.2
    have ux:=zvo b.kd xi.1 xi.2
    have hy':(ds.map V.int)[j+1]?=some (.int y):=by rw[yaj,hy];rfl
    nofun
    refine ⟨q,rs,b.es, "rate", x,rfl,hq5,hR5,by ac_rfl,O.day,?_⟩
    nofun
    refine ⟨q,rs,b.es, "late", x,rfl,hq5,hR5,by ac_rfl,O.day,?_⟩
    nofun
    refine ⟨p,q,ns,rs,b.es,x,rfl,hp5,hq5,hR5,by ac_rfl,fun s hs=>(O.st s hs).2,?_⟩
    rw[<-O.g]
    obtain ⟨ea,hea⟩:∃ ea:Int,ea=Sums.valOf (prs "rate" b.es) x*P'+Sums.valOf (prs "late" b.es) x*(if lk1 b.g b.es x<P' then lk1 b.g b.es x else P'):=⟨_,rfl⟩
    nofun
    dsimp only
    rw[<-hea]
    rw[dy,<-hea] at nx
    refine ⟨le,_,_,_,rfl,rfl,SqL.of ee5,by rw[show ((j:Int)+1)=((j+1:Nat):Int) by ac_rfl];exact zaw hy',?_⟩
    refine ⟨b.kd,kn,y,rfl,kd,yi.1,?_⟩
    nofun
    refine ⟨b.kd,kn,x,rfl,kd,xi.1,?_⟩
    have c0:-1<=cst b.kd/\cst b.kd<=1000000000:=by cases b.kd <;> decide
    nofun
    have se:ea*(Uk b.kd y+cst b.kd-(Uk b.kd x+cst b.kd))=(Uk b.kd y-Uk b.kd x)*ea:=by
     rw[Int.mul_comm,show Uk b.kd y+cst b.kd-(Uk b.kd x+cst b.kd)=Uk b.kd y-Uk b.kd x by ac_rfl]
    rw[<-se] at nx
    exact ⟨P',_,_,_,_,_,_,⟨sB,nx⟩,rfl⟩
  ·rename_i c
   have hn:ds[j+1]?=none:=ybw.mpr (by ac_rfl)
   exact ⟨P',N',C,_,_,_,_,⟨sB,zuX E hx hn a1 a2⟩,rfl⟩
 ·rintro σ H' ⟨P,N,C,z1,z2,z3,z4,⟨sH,St⟩,rfl⟩
  obtain ⟨e1,e2⟩:=St.2 (ybw.mpr (ycz _))
  nofun
  intro t nt
  have s6:=ze nt (.tup [.int P,.int N,.int C])
  refine h t C _ (zM (s13.trans sH) nt) (s13.trans (sH.trans s6)) ?_ ?_
  ·rw[zg,show zac b L=(P,N) from e1.symm]
  ·rw[show zac b L=(P,N) from e1.symm]
   exact e2
def zjB (K:W.Frag):Sp:=fun vs H Q _=>L2.Ee9 fun c p kd xs b (ds:List Int) P x y=>L2.Aa9 (vs=[.ref c,.ref p,.int P,.int x,.int y]) (zb5 K H c kd) (SqL K H p xs) (R4 b H xs ds) (ds.Pairwise (·<·)) ((∀ d,d∈ds↔TDay b d)) (BOk b) ((0<=x/\x<=1000000/\y<=1000000)) (Q (.int (csum (Uk kd) (zas b P) x y)) H)
theorem zaJ:zj ["count", "rows", "principal", "a", "b", "total", "start", "place", "row", "end"] qbt (zh zd7):=by walk_at "sp"
theorem zpd (S:Src K mg "charged_by" zd7 qbt) (T:Txt K mg) (zcL:Def P w K mg base 1 "begun" qat (zi7 K)) (zjn:∀ kd:Kd,zv P w K mg base 5 (cA K kd.cls) "weight" qam (zia kd K)):Def P w K mg base 6 "charged_by" qbt (zjB K):=by
 exists S.ok,zaJ,0
 all_goals obtain ⟨c,p,kd,xs,b,ds,P0,x,y,rfl,hc,hS,hR,up,mem,O,⟨x0,x1,y1⟩,h⟩:=h
 ·rfl
 refine ⟨_,(zc (zk (i:=5) zaJ.nd rfl (by walk_at "lc") zb)
  (zc (zk (i:=6) zaJ.nd rfl (by walk_at "lc") (pv 3))
  (zc (zk (i:=7) zaJ.nd rfl (by walk_at "lc") (zt zcL hr (za (pv 1) (za (pv 3) zd))))
  (zc (zdp PassesOwn.never (zu ze3 (pv 6) (pv 4) (nomark _))
  (zc (zk (i:=8) zaJ.nd rfl (by walk_at "lc") (zq zB (pv 1) (zi zak (pv 7) zb) (fun _ _=>rfl)))
  (zc (zk (i:=9) zaJ.nd rfl (by walk_at "lc") (zpO (zu ze3 (pv 7) (zx zaI rfl T.zdd PySem.boot_len (za (pv 1) zd)) (nomark _)) (zx (za8 rfl) rfl T.zcM PyProof.Rows.boot_min (za (pv 4) (za (zq zah (zq zB (pv 1) (pv 7) (fun _ _=>rfl)) zb (fun _ _=>rfl)) zd))) (pv 4)))
  (zc (zk (i:=5) zaJ.nd rfl (by walk_at "lc") (zi zz (pv 5) (zi zaj (zlJ zjn T.cls hr (pv 0) (za (pv 6) (za (pv 9) zd))) (zi zz (zi zaj (zq zah (pv 8) zb (fun _ _=>rfl)) (pv 2)) (zi zaj (zq zah (pv 8) zb (fun _ _=>rfl)) (zx (za8 rfl) rfl T.zcM PyProof.Rows.boot_min (za (pv 2) (za (zq zah (pv 8) zb (fun _ _=>rfl)) zd))))))))
  (zc (zk (i:=6) zaJ.nd rfl (by walk_at "lc") (pv 9))
  (zf (zk (i:=7) zaJ.nd rfl (by walk_at "lc") (zi zz (pv 7) zb))))))))
  (zf (zo (pv 5))))))),?_⟩
 have xl:=hR.length
 nofun
 refine ⟨p,xs,ds,x,rfl,hS,hR.rf,up,fun n Bg=>?_⟩
 have n1:1<=n:=by
  rcases Nat.eq_zero_or_pos n with e | e
  ·subst e
   obtain ⟨j,hj⟩:=yav.mp ((mem 0).mpr (.inl rfl))
   have:=Bg.hi j 0 (ydb _) hj
   ac_rfl
  ·exact e
 nofun
 refine ⟨fun k σ H'=>H=H'/\∃ (st:Int) (pl:Nat) (z1 z2:Option V),σ=[some (.ref c),some (.ref p),some (.int P0),some (.int x),some (.int y),some (.int (csum (Uk kd) (zas b P0) x st)),some (.int st),some (.int pl),z1,z2]/\x<=st/\(st<=y\/st=x)/\(st<y->zm6 ds st pl/\1<=pl)/\k=(y-st).toNat,⟨_,rfl,x,n,_,_,by rw[zil (ydz _)];rfl,ydz _,.inr rfl,fun _=>⟨Bg,n1⟩,rfl⟩,?_⟩
 rintro k σ H' ⟨rfl,st,pl,z1,z2,rfl,xs1,st2,bg,rfl⟩
 nofun
 ·rename_i q
  refine ⟨_,fun σ' H' z=>z,?_⟩
  obtain ⟨B,p1⟩:=bg q
  have ble:=B.le
  obtain ⟨m,rfl⟩:∃ m,pl=m+1:=⟨pl-1,by ac_rfl⟩
  have em:((m+1:Nat):Int)-1=(m:Int):=by ac_rfl
  obtain ⟨d0,hd0,t0,ex0,ht0⟩:=hR.get (yaa (by ac_rfl:m<xs.length))
  have at0:atI xs (((m+1:Nat):Int)-1)=some (.ref t0):=by
   rw[em]
   exact zaw (by rw[yaa (by ac_rfl:m<xs.length),ex0])
  have lo0:=B.lo m d0 (by ac_rfl) hd0
  have rr:=O.rt d0
  have ll:=O.lt d0
  nofun
  refine ⟨p,_,_,_,rfl,rfl,hS,at0,?_⟩
  have fin:∀ e:Int,st<e->e<=y->(∀ z,ds[m+1]?=some z->e<=z)->(e<y->zm6 ds e (m+1+1))->csum (Uk kd) (zas b P0) x e=csum (Uk kd) (zas b P0) x st+(Uk kd e-Uk kd st)*(zen b d0*P0+zem b d0*mn P0 (zdM b d0)):=fun e h1 h2 h3 h4=>by
   rw[zlF xs1 (by ac_rfl:st<=e),ztq mem up hd0 lo0 (by ac_rfl) h3]
   rfl
  have u2:=zsB (kd:=kd) (d:=st) (by ac_rfl) (by ac_rfl)
  nofun
  ·rename_i c1
   have ml:m+1<xs.length:=by ac_rfl
   obtain ⟨d1,hd1,t1,ex1,ht1⟩:=hR.get (yaa ml)
   have at1:atI xs ((m+1:Nat):Int)=some (.ref t1):=zaw (by rw[yaa ml,ex1])
   have hi1:=B.hi (m+1) d1 (ycz _) hd1
   have e0:st<(if d1<y then d1 else y):=by split <;> ac_rfl
   have e1:(if d1<y then d1 else y)<=y:=by split <;> ac_rfl
   have e2:∀ z,ds[m+1]?=some z->(if d1<y then d1 else y)<=z:=fun z hz=>by
    rw[hd1] at hz
    cases hz
    split <;> ac_rfl
   have e3:(if d1<y then d1 else y)<y->zm6 ds (if d1<y then d1 else y) (m+1+1):=fun z=>by
    have e4:(if d1<y then d1 else y)=d1:=by
     by_cases c:d1<y
     ·rw[if_pos c]
     ·rw[if_neg c] at z;ac_rfl
    rw[e4]
    refine ⟨by ac_rfl,fun i x hi hx=>?_,fun i x hi hx=>zcN up hd1 hx (by ac_rfl)⟩
    by_cases c:i=m+1
    ·subst c;rw[hd1] at hx;have:=Option.some.inj hx;ac_rfl
    ·have:=B.lo i x (by ac_rfl) hx;ac_rfl
   have fe:=fin _ e0 e1 e2 e3
   refine ⟨p,_,_,_,rfl,rfl,hS,at1,?_⟩
   nofun
   generalize (if d1<y then d1 else y)=e at *
   refine ⟨kd,c,rfl,hc,?_⟩
   have u1:=zsB (kd:=kd) (d:=e) (by ac_rfl) (by ac_rfl)
   nofun
   first | refine ⟨hc,?_⟩ | skip
   nofun
   refine ⟨(y-e).toNat,by ac_rfl,rfl,e,m+1+1,some (.ref t0),some (.int e),?_,by ac_rfl,.inl (by ac_rfl),fun z=>⟨e3 z,by ac_rfl⟩,rfl⟩
   rw[fe]
   rfl
  ·rename_i c1
   have dl:ds.length=m+1:=by ac_rfl
   have e2:∀ z,ds[m+1]?=some z->y<=z:=fun z hz=>by
    have:=(yac.mp hz).1
    ac_rfl
   have fe:=fin y q (ydz _) e2 fun z=>absurd z (by ac_rfl)
   nofun
   refine ⟨kd,c,rfl,hc,?_⟩
   have u1:=zsB (kd:=kd) (d:=y) (by ac_rfl) (by ac_rfl)
   nofun
   first | refine ⟨hc,?_⟩ | skip
   nofun
   refine ⟨(y-y).toNat,by ac_rfl,rfl,y,m+1+1,some (.ref t0),some (.int y),?_,by ac_rfl,.inl (by ac_rfl),fun z=>absurd z (by ac_rfl),rfl⟩
   rw[fe]
   rfl
 ·rename_i q
  have e:csum (Uk kd) (zas b P0) x st=csum (Uk kd) (zas b P0) x y:=by
   rcases st2 with z | z
   ·rw[show st=y by ac_rfl]
   ·rw[z,zil (ydz _),zil (by ac_rfl)]
  rw[e]
  exact h
def zj7 (K:W.Frag):Sp:=fun vs H Q _=>L2.Ee5 fun p q (ns:List Int) rs (es:List Er)=>L2.Aa7 (vs=[.ref p,.ref q]) (SqL K H p (ns.map V.int)) (SqL K H q rs) (LL (fun v e=>∃ t,v=.ref t/\H t=some (.tup (zb7 e.1 e.2.1 e.2.2))) rs es) (es.length<=61) ((∀ e∈es,e.1≠.base/\0<=e.2.1)) (∀ a A (b:BkT) H',H a=none->Same H H'->zbd K H' a A b->zbf b->b.kd=kindOf ns->b.g=zaO ns->b.es=es->Q (.ref a) H')
theorem zo2:zj qbf qbf (zh ze9):=by walk_at "sp"
theorem zqV (S:Src K mg "_law_book" ze9 qbf) (T:Txt K mg) (zh1:zv P w K mg base 4 (cA K "Book") "__init__" qbe (zkm K)) (zhU:Def P w K mg base 4 "_law_made" qbr (zj2 K)) (zaT:Def P w K mg base 2 "_law_grace" qad (zc2 K)) (zg4:Def P w K mg base 2 "_law_count" qad (zjF K)):Def P w K mg base 6 "_law_book" qbf (zj7 K):=by
 exists S.ok,zo2,0
 all_goals obtain ⟨p,q,ns,rs,es,rfl,hp,hq,hL,hl,ok,h⟩:=h
 ·rfl
 refine ⟨_,(zf (zo (zbv T.zmY zh1 hr T.zpY (za (zt zg4 hr (za (pv 0) zd)) (za (zt zaT hr (za (pv 0) zd)) (za (zbp (ix:=[]) ⟨rfl,by decide +kernel,rfl,by decide +kernel,rfl,(show (["_law_row_here"]:List Str).Nodup by decide +kernel),by walk_at "cap", by walk_at "sub", by walk_at "has"⟩ (zG (pv 1)) (fun b=>(zt zhU hr (za (pv 0) zd)))) zd)))))),?_⟩
 have sz:=sizeLine_eq
 have xl:=hL.length
 nofun
 refine ⟨p,ns,rfl,hp,fun c H1 nc s1 hc=>?_⟩
 nofun
 refine ⟨p,ns,rfl,s1.seq hp,?_⟩
 nofun
 refine ⟨⟨_,s1.seq hq⟩,fun l nl=>?_⟩
 refine comp_map (zO (s1.seq hq)) nl (by ac_rfl) es xl.symm (fun H' v e=>∃ a dx,v=.ref a/\zkD K H' a dx e.1 e.2.1 e.2.2) (fun v e H1 H2 s ⟨t,dx,e1,e2⟩=>⟨t,dx,e1,s _ _ e2⟩) (fun v e H1 ys zs hL ⟨t,dx,e1,e2⟩=>⟨t,dx,e1,by rw[zkD,zr (zau e2 hL (by intro z;cases z))];exact e2⟩) ?_ ?_
 ·rintro i x e H' Q' hx he sH hq'
  obtain ⟨e',he',t,rfl,ht⟩:=hL.get hx
  obtain rfl:e'=e:=Option.some.inj (he'.symm.trans he)
  nofun
  refine ⟨t,e'.1,e'.2.1,e'.2.2,rfl,sH _ _ (s1 _ _ ht),(ok e' (yae he)).1,fun a dx H2 s2 na ha=>?_⟩
  exact hq' _ _ s2 ⟨a,dx,rfl,ha⟩
 ·rintro ys H2 s2 eL hE
  nofun
  intro a dx na nd ne
  have s3:Same H2 (upd (upd H2 dx (.own a)) a (.ins (cA K "Book") dx [])):=(ze nd _).trans (ze (by rw[zr ne.symm];exact na) _)
  refine ⟨a,dx,c,l,kindOf ns,zaO ns,ys,es,H2,rfl,zg,⟨na,s3⟩,hc.same s2,zjg ns,SqL.of eL,hE,hl,fun e he=>(ok e he).2,fun A b H3 sH3 B I e1 e2 e3=>⟨rfl,?_⟩⟩
  exact h a A b H3 (zM (s1.trans s2) na) (s1.trans (s2.trans sH3)) B I e1 e2 e3
def zhu (K:W.Frag):Sp:=fun vs H Q _=>L2.Ee6 fun a p A b ws (ds:List Int)=>L2.zuP (vs=[.ref a,.ref p]) (zbd K H a A b) (AB b) (H p=some (.lst ws)) (R5 b H ws ds) (ds.Pairwise (·<·)) ((∀ d∈ds,0<=d/\d<=1000000)) ((∀ d z,z∈ds->d<z->DDay b d->d∈ds)) (ds.length<=1000) (∀ q x vs' H',H q=none->Same H H'->H' q=some (.lst vs')->DbL K (uB b) (zac b) x H H' vs' ds->Q (.ref q) H')
theorem zaS:zj ["book", "rows", "burden_rows", "debt", "told", "start", "deeds"] qbu (zh zcF):=by walk_at "sp"
theorem zmF (S:Src K mg "debts_behind" zcF qbu) (T:Txt K mg) (zkp:Def P w K mg base 4 "burdens" qag (zml K)) (zcj:zv P w K mg base 1 (cA K "Debt") "__init__" qau (zg5 K)) (zlN:∀ kd:Kd,zv P w K mg base 2 (cA K kd.cls) "unit" qaa (zjZ kd K)) (zdE:zv P w K mg base 1 (cA K "Book") "count" qaa (zjC K)) (zhZ:zv P w K mg base 1 (cA K "Debt") "grow" qax (zkl K)) (zge:Def P w K mg base 6 "charged_by" qbt (zjB K)) (zaZ:zv P w K mg base 1 (cA K "Debt") "principal" qaa (zcV K)) (zjk:Def P w K mg base 4 "do_deeds" qbd (zlb K)) (zhC:zv P w K mg base 3 (cA K "Debt") "copy" qaa (zjW K)):Def P w K mg base 7 "debts_behind" qbu (zhu K):=by
 exists S.ok,zaS,0
 all_goals obtain ⟨a,p,A,b,ws,ds,rfl,B,O,hp,hR,up,din,dmem,dl,h⟩:=h
 ·rfl
 refine ⟨_,(zc (zk (i:=2) zaS.nd rfl (by walk_at "lc") (zt zkp hr (za (pv 0) zd)))
  (zc (zk (i:=3) zaS.nd rfl (by walk_at "lc") (zbv T.zkJ zcj hr T.zmh (za (zj5 zlN T.cls hr (zQ zdE T.zF hr (pv 0))) zd)))
  (zc (zk (i:=4) zaS.nd rfl (by walk_at "lc") (zat zd))
  (zc (zk (i:=5) zaS.nd rfl (by walk_at "lc") zb)
  (zc (zbQ PassesOwn.never rfl (zG (pv 1)) (zC (i:=6) zaS.nd rfl (by walk_at "lc"))
  (zc (zam (zdr zhZ T.zI hr (pv 3) (za (zt zge hr (za (zQ zdE T.zF hr (pv 0)) (za (pv 2) (za (zQ zaZ T.zI hr (pv 3)) (za (pv 5) (za (zq zah (pv 6) zb (fun _ _=>rfl)) zd)))))) zd)))
  (zc (zam (zt zjk hr (za (pv 3) (za (pv 6) zd))))
  (zc (zam (zfb PySem.F.plainAttrs_list PySem.F.slot_list_append PySem.F.type_list_append za7 (pv 4) (za (zQ zhC T.zI hr (pv 3)) zd)))
  (zf (zk (i:=5) zaS.nd rfl (by walk_at "lc") (zq zah (pv 6) zb (fun _ _=>rfl))))))))
  (zf (zo (pv 4)))))))),?_⟩
 have sz:=sizeLine_eq
 have hu:0<uB b/\uB b<1152921504606846976:=⟨O.ok.hu,O.u1⟩
 have wl:=hR.length
 nofun
 first | refine ⟨a,A,b,rfl,B,O.ok.ok,fun pb xb tb H1 n1 s1 eb rb upb memb lb=>?_⟩ | refine ⟨B,O.ok.ok,fun pb xb tb H1 n1 s1 eb rb upb memb lb=>?_⟩
 have B1:=B.same s1
 nofun
 refine ⟨a,A.dx,_,rfl,B1.ins,rfl,a,A,b,rfl,B1,?_⟩
 nofun
 refine ⟨b.kd,A.c,rfl,B1.cnt,?_⟩
 nofun
 refine ⟨B1.cnt,?_⟩
 nofun
 intro x dx nx ndx nex
 refine ⟨x,dx,uB b,rfl,zg,rfl,?_⟩
 rw[zZ]
 have s2:Same H1 (upd (upd H1 dx (.own x)) x (.ins (cA K "Debt") dx (zan (uB b) 0 0))):=(ze ndx _).trans (ze (by rw[zr nex.symm];exact nx) _)
 have eD:Deb K (upd (upd H1 dx (.own x)) x (.ins (cA K "Debt") dx (zan (uB b) 0 0))) x dx (uB b) 0 0:=zg
 generalize upd (upd H1 dx (.own x)) x (.ins (cA K "Debt") dx (zan (uB b) 0 0))=H2 at s2 eD ⊢
 nofun
 intro q nq
 have s3:=ze nq (.lst [])
 have eq:=zD (.lst []) nq
 have eD3:Deb K _ x dx (uB b) 0 0:=eD.same s3
 have s13:=s2.trans s3
 have nq1:=zM s2 nq
 have nxq:x≠q:=zW eD nq
 generalize upd H2 q (.lst [])=H3 at s3 eq eD3 s13 ⊢
 have nqH:=zM s1 nq1
 have nxH:=zM s1 nx
 have key:∀ (i:Nat) (d m n st:Int),ds[i]?=some d->((i=0/\m=0/\n=0/\st=0)\/(∃ e,0<i/\ds[i-1]?=some e/\m=(zac b e).1/\n=(zac b e).2/\st=e))->stB (Uk b.kd) (uB b) b d.toNat=(m,n+csum (Uk b.kd) (zas b m) st d)/\0<=st/\st<=1000000:=fun i d m n st hd hc=>by
  obtain ⟨d0,d1⟩:=din d (yae hd)
  rcases hc with ⟨rfl,rfl,rfl,rfl⟩ | ⟨e,i0,he,e1,e2,e3⟩
  ·refine ⟨first O.ok d0 fun k k0 k1=>zte O.is fun hk=>?_,ydz _,by decide⟩
   obtain ⟨j,hj⟩:=yav.mp (dmem k d (yae hd) k1 hk)
   rcases Nat.eq_zero_or_pos j with z | z
   ·subst z;rw[hd] at hj;have:=Option.some.inj hj;ac_rfl
   ·have:=zcN up hd hj z;ac_rfl
  ·obtain ⟨f0,f1⟩:=din e (yae he)
   rw[e1,e2,e3]
   refine ⟨next O.ok f0 (zcN up he hd (by ac_rfl)) fun k k0 k1=>zte O.is fun hk=>?_,f0,f1⟩
   obtain ⟨j,hj⟩:=yav.mp (dmem k d (yae hd) k1 hk)
   rcases ydh j i with z | z | z
   ·by_cases y:j=i-1
    ·subst y;rw[he] at hj;have:=Option.some.inj hj;ac_rfl
    ·have:=zcN up hj he (by ac_rfl);ac_rfl
   ·subst z;rw[hd] at hj;have:=Option.some.inj hj;ac_rfl
   ·have:=zcN up hd hj z;ac_rfl
 nofun
 refine ⟨⟨_,SqL.of (s13 _ _ (s1 _ _ hp))⟩,zbH (xs:=ws) (fun i σ H'=>L2.Ee5 fun (m n st:Int) (vs':List V) (z1:Option V)=>L2.Aa3 ((Same H1 H'/\Deb K H' x dx (uB b) m n/\H' q=some (.lst vs')/\DbL K (uB b) (zac b) x H H' vs' (ds.take i))) (((i=0/\m=0/\n=0/\st=0)\/(∃ e,0<i/\ds[i-1]?=some e/\m=(zac b e).1/\n=(zac b e).2/\st=e))) (σ=[some (.ref a),some (.ref p),some (.ref pb),some (.ref x),some (.ref q),some (.int st),z1]))
  ⟨0,0,0,[],_,⟨s13,eD3,eq,.nil⟩,.inl ⟨rfl,rfl,rfl,rfl⟩,rfl⟩ ?_ ?_ ?_⟩
 ·rintro i σ H' _ ⟨m,n,st,vs',z1,⟨sH,_⟩,_⟩
  exact SqL.of (sH _ _ (s1 _ _ hp))
 ·rintro i v σ H' hv ⟨m,n,st,vs',z1,⟨sH,eD',eq',hL⟩,cur,rfl⟩
  have s0H:=s1.trans sH
  obtain ⟨d,hd,t,rfl,ht0⟩:=hR.get hv
  have ht:=s0H _ _ ht0
  have il:i<ds.length:=(yac.mp hd).1
  have vl:=hL.length
  rw[ybe] at vl
  obtain ⟨kk,st0,st1⟩:=key i d m n st hd cur
  obtain ⟨d0,d1⟩:=din d (yae hd)
  have B':=B.same s0H
  have tk:ds.take (i+1)=ds.take i++[d]:=by rw[ybb,hd];rfl
  nofun
  refine ⟨x,dx,_,rfl,eD',rfl,?_⟩
  nofun
  refine ⟨a,A.dx,_,rfl,B'.ins,rfl,a,A,b,rfl,B',?_⟩
  nofun
  refine ⟨x,dx,_,rfl,eD',rfl,x,dx,uB b,m,n,rfl,eD',?_⟩
  nofun
  refine ⟨A.c,pb,b.kd,xb,b,tb,m,st,d,rfl,B'.cnt,SqL.of (sH _ _ eb),rb.same sH,upb,memb,O.ok.ok,⟨st0,st1,d1⟩,?_⟩
  nofun
  refine ⟨x,dx,uB b,m,n,_,rfl,eD',?_⟩
  have e1:Deb K (upd H' x (.ins (cA K "Debt") dx (zan (uB b) m (n+csum (Uk b.kd) (zas b m) st d)))) x dx (uB b) m (n+csum (Uk b.kd) (zas b m) st d):=zg
  have t1:=zi6 (K:=K) (o:=.ins (cA K "Debt") dx (zan (uB b) m (n+csum (Uk b.kd) (zas b m) st d))) eD' ht
  have acc:doD (uB b) (ddo b d) (m,n+csum (Uk b.kd) (zas b m) st d)=zac b d:=by
   show _=doD (uB b) (ddo b (d.toNat:Nat)) (stB (Uk b.kd) (uB b) b d.toNat)
   rw[kk,show ((d.toNat:Nat):Int)=d by ac_rfl]
  nofun
  refine ⟨x,dx,t,uB b,m,_,d,ddo b d,rfl,e1,hu,t1,?_⟩
  rw[zZ,acc]
  have e2:Deb K (upd H' x (.ins (cA K "Debt") dx (zan (uB b) (zac b d).1 (zac b d).2))) x dx (uB b) (zac b d).1 (zac b d).2:=zg
  have hL2:DbL K (uB b) (zac b) x H (upd H' x (.ins (cA K "Debt") dx (zan (uB b) (zac b d).1 (zac b d).2))) vs' (ds.take i):=hL.put
  have eq2:(upd H' x (.ins (cA K "Debt") dx (zan (uB b) (zac b d).1 (zac b d).2))) q=some (.lst vs'):=by rw[zr nxq.symm];exact eq'
  have s4:Same H1 (upd H' x (.ins (cA K "Debt") dx (zan (uB b) (zac b d).1 (zac b d).2))):=zN sH nx
  have ht4:=s4 _ _ (s1 _ _ ht0)
  clear e1 t1 eD' ht B'
  generalize upd H' x (.ins (cA K "Debt") dx (zan (uB b) (zac b d).1 (zac b d).2))=H4 at e2 hL2 eq2 s4 ht4 ⊢
  nofun
  refine ⟨.inl ⟨rfl,_,SqL.of eq2⟩,?_⟩
  nofun
  refine ⟨x,dx,_,rfl,e2,rfl,x,dx,uB b,_,_,rfl,e2,fun y dy ny ndy ney=>?_⟩
  have s5:Same H4 (upd (upd H4 dy (.own y)) y (.ins (cA K "Debt") dy (zan (uB b) (zac b d).1 (zac b d).2))):=(ze ndy _).trans (ze (by rw[zr ney.symm];exact ny) _)
  have ey:Deb K (upd (upd H4 dy (.own y)) y (.ins (cA K "Debt") dy (zan (uB b) (zac b d).1 (zac b d).2))) y dy (uB b) (zac b d).1 (zac b d).2:=zg
  have nyx:y≠x:=(zW e2 ny).symm
  have nyH:=zM (s1.trans s4) ny
  generalize upd (upd H4 dy (.own y)) y (.ins (cA K "Debt") dy (zan (uB b) (zac b d).1 (zac b d).2))=H5 at s5 ey ⊢
  have ht5:=s5 _ _ ht4
  have eq5:=s5 _ _ eq2
  nofun
  refine ⟨q,_,_,rfl,rfl,eq5,by ac_rfl,?_⟩
  have ht6:(upd H5 q (.lst (vs'++[.ref y]))) t=some (.tup [.int d,.int (ddo b d).1,.int (ddo b d).2.1,.int (ddo b d).2.2.1,.int (ddo b d).2.2.2]):=by rw[zr (zau ht5 eq5 (by intro z;cases z))];exact ht5
  nofun
  refine ⟨_,_,d,vs'++[.ref y],_,⟨zN (s4.trans s5) nq1,Deb.putL (e2.same s5) eq5,zg,?_⟩,.inr ⟨d,by ac_rfl,by simpa using hd,rfl,rfl,rfl⟩,rfl⟩
  rw[tk]
  exact LL.push ((hL2.same s5).putL eq5) ⟨y,dy,rfl,⟨nyx,nyH⟩,Deb.putL ey eq5⟩
 ·rintro σ H' ⟨m,n,st,vs',z1,⟨sH,eD',eq',hL⟩,cur,rfl⟩
  rw[wl,yaz (ycz _)] at hL
  nofun
  exact h q x vs' H' nqH (s1.trans sH) eq' hL
def ziE (P:Program) (w:World) (K:W.Frag):Sp:=fun vs H Q _=>L2.Ee6 fun a p A b (ms:List Int) z=>L2.Aa8 (vs=[.ref a,.ref p]) (zbd K H a A b) (AB b) (H p=some (.lst ((ms++[z]).map V.int))) (ms.length<=20) ((ms++[z]).Pairwise (·<·)) ((∀ d∈ms++[z],0<=d/\d<=1000000)) (∀ q x ws H',H q=none->Same H H'->H' q=some (.lst ws)->DbL K (uB b) (zac b) x H H' ws (ms++[z])->Q (.ref q) H')
theorem zcD:zj ["book", "days", "rows", "debts", "by_day"] qao (zh zc1):=by walk_at "sp"
theorem znL (S:Src K mg "accounts_at" zc1 qao) (T:Txt K mg) (zgw:Def P w K mg base 2 "deeds_upto" qao (zjy P w K)) (zez:Def P w K mg base 7 "debts_behind" qbu (zhu K)):Def P w K mg base 8 "accounts_at" qao (ziE P w K):=by
 exists S.ok,zcD,0
 all_goals obtain ⟨a,p,A,b,ms,z,rfl,B,O,hp,ml,up,din,h⟩:=h
 ·rfl
 refine ⟨_,(zc (zk (i:=2) zcD.nd rfl (by walk_at "lc") (zt zgw hr (za (pv 0) (za (pv 1) zd))))
  (zc (zk (i:=3) zcD.nd rfl (by walk_at "lc") (zt zez hr (za (pv 0) (za (pv 2) zd))))
  (zc (zk (i:=4) zcD.nd rfl (by walk_at "lc") (zT (zq0 rfl) rfl T.zfm PyProof.Rows.boot_dict (za (zbp (ix:=[3,2]) ⟨rfl,by decide +kernel,rfl,by decide +kernel,rfl,(show (["place", "debts", "rows"]:List Str).Nodup by decide +kernel),by walk_at "cap", by walk_at "sub", by walk_at "has"⟩ (zfi rfl T.zdx (za (zx zaI rfl T.zdd PySem.boot_len (za (pv 2) zd)) zd)) (fun b=>(zap (za (zq (zaz K) (zq (zeG K) (pv 2) (pv 0) (fun _ _=>rfl)) zb (fun _ _=>rfl)) (za (zq (zeG K) (pv 1) (pv 0) (fun _ _=>rfl)) zd))))) zd)))
  (zf (zo (zbp (ix:=[4]) ⟨rfl,by decide +kernel,rfl,by decide +kernel,rfl,(show (["day", "by_day"]:List Str).Nodup by decide +kernel),by walk_at "cap", by walk_at "sub", by walk_at "has"⟩ (zG (pv 1)) (fun b=>(zq (zsQ P w) (pv 1) (pv 0) (fun _ _=>rfl))))))))),?_⟩
 have sz:=sizeLine_eq
 have osz:=O.sz
 nofun
 first | refine ⟨a,p,A,b,ms,z,rfl,B,O.is,hp,by ac_rfl,fun q1 ws ds H1 n1 s1 e1 r1 up1 zay l1=>?_⟩ | refine ⟨A,b,ms,z,B,O.is,hp,by ac_rfl,fun q1 ws ds H1 n1 s1 e1 r1 up1 zay l1=>?_⟩
 have dz:∀ d∈ds,0<=d/\d<=1000000:=fun d hd=>by
  rcases (zay d).mp hd with ⟨h1,h2⟩ | h1
  ·have:=O.d0 d h1
   have:=(din z (by simp)).2
   ac_rfl
  ·exact din d h1
 have dm:∀ d y,y∈ds->d<y->DDay b d->d∈ds:=fun d y hy dy hd=>by
  refine (zay d).mpr (.inl ⟨hd,?_⟩)
  rcases (zay y).mp hy with ⟨_,h2⟩ | h1
  ·ac_rfl
  ·rcases yaf.mp h1 with h1 | h1
   ·have:=(ybo.mp up).2.2 y h1 z (by simp)
    ac_rfl
   ·have:y=z:=by simpa using h1
    ac_rfl
 have rl:=r1.length
 nofun
 first | refine ⟨a,q1,A,b,ws,ds,rfl,B.same s1,O,e1,r1,up1,dz,dm,by ac_rfl,fun q2 x vs2 H2 n2 s2 e2 hD=>?_⟩ | refine ⟨A,b,ws,ds,B.same s1,O,e1,r1,up1,dz,dm,by ac_rfl,fun q2 x vs2 H2 n2 s2 e2 hD=>?_⟩
 have vl:=hD.length
 have e12:=s2 _ _ e1
 have r12:=r1.same s2
 nofun
 refine ⟨q1,ws,rfl,.inl (SqL.of e12),?_⟩
 walk_at "rd1"
 refine ⟨by ac_rfl,by ac_rfl,fun l3 n3=>?_⟩
 refine zs7 n3 (by ac_rfl) (ds.zip vs2) (by rw[List.length_zip];ac_rfl) (fun H' v s=>∃ t,v=.ref t/\H' t=some (.tup [.int s.1,s.2])) (fun v e H1 H2 s ⟨t,e1,e2⟩=>⟨t,e1,s _ _ e2⟩) (fun v e H1 ys zs hL ⟨t,e1,e2⟩=>⟨t,e1,by rw[zr (zau e2 hL (by intro z;cases z))];exact e2⟩) ?_ ?_
 ·rintro i e H' Q' hi he sH hq
  obtain ⟨hd,hv⟩:=ycl.mp he
  obtain ⟨d',hd',t,et,ht⟩:=r12.get (yaa (show i<ws.length by ac_rfl))
  obtain rfl:d'=e.1:=Option.some.inj (hd'.symm.trans hd)
  have wi:ws[i]?=some (.ref t):=by rw[yaa (show i<ws.length by ac_rfl),et]
  have ht':=sH _ _ ht
  rw[yea]
  nofun
  refine ⟨q1,_,_,_,rfl,rfl,SqL.of (sH _ _ e12),zaw wi,?_⟩
  nofun
  first | refine ⟨t,_,_,_,rfl,rfl,SqT.of ht',rfl,?_⟩ | skip
  nofun
  refine ⟨q2,_,_,_,rfl,rfl,SqL.of (sH _ _ e2),zaw hv,?_⟩
  nofun
  intro u nu
  exact hq _ _ (ze nu _) ⟨u,rfl,zg⟩
 ·rintro ys H3 s3 e3 hL
  have nd1:ds.Nodup:=Sby.zeb up1
  have zl:(ds.zip vs2).map (·.1)=ds:=List.map_fst_zip (by ac_rfl)
  nofun
  refine ⟨l3,ys,ds.zip vs2,rfl,e3,hL,by rw[List.length_zip];ac_rfl,fun d4 n4=>?_⟩
  rw[zsX (by rw[zl];exact nd1)]
  have s4:=ze n4 (zbi P w d4 (ds.zip vs2))
  have e4:=zD (zbi P w d4 (ds.zip vs2)) n4
  have s04:=s1.trans (s2.trans (s3.trans s4))
  have hp4:=s04 _ _ hp
  have hD4:=hD.same (s3.trans s4)
  nofun
  refine ⟨⟨_,SqL.of hp4⟩,fun l5 n5=>?_⟩
  refine comp_map (zO (SqL.of hp4)) n5 (by rw[yab,yai];simp;ac_rfl) (ms++[z]) (by rw[yab]) (fun H' v d=>∃ y dy,v=.ref y/\(y≠x/\H1 y=none)/\Deb K H' y dy (uB b) (zac b d).1 (zac b d).2) (fun v e H1 H2 s ⟨y,dy,a1,a2,a3⟩=>⟨y,dy,a1,a2,s _ _ a3⟩) (fun v e H1 ys zs hL ⟨y,dy,a1,a2,a3⟩=>⟨y,dy,a1,a2,Deb.putL a3 hL⟩) ?_ ?_
  ·rintro i v d H' Q' hx hd sH hq
   rw[yaj,hd] at hx
   cases hx
   have dm:d∈ds:=(zay d).mpr (.inr (yae hd))
   obtain ⟨j,hj⟩:=yav.mp dm
   have jl:=(yac.mp hj).1
   obtain ⟨d',hd',y,dy,ey,ny,eD⟩:=hD4.get (yaa (show j<vs2.length by ac_rfl))
   obtain rfl:d'=d:=Option.some.inj (hd'.symm.trans hj)
   have lk:lkV (ds.zip vs2) d'=some (.ref y):=zrn (by ac_rfl) nd1 hj (by rw[yaa (show j<vs2.length by ac_rfl),ey])
   nofun
   refine ⟨d4,_,_,_,rfl,rfl,sH _ _ e4,lk,?_⟩
   exact hq _ _ (Same.refl _) ⟨y,dy,rfl,ny,sH _ _ eD⟩
  ·rintro yR HR sR eR hR
   refine h l5 x yR HR (zM s04 n5) (s04.trans sR) eR ?_
   exact DbL.old (show DbL K (uB b) (zac b) x H1 HR yR (ms++[z]) from hR) s1
def zjh (K:W.Frag):Sp:=fun vs H Q _=>L2.Ee4 fun a A b z=>L2.Aa5 (vs=[.ref a,.int z]) (zbd K H a A b) (AB b) ((0<=z/\z<=1000000)) (∀ x dx H',H x=none->Same H H'->Deb K H' x dx (uB b) (zac b z).1 (zac b z).2->Q (.ref x) H')
theorem zsf:zj qaj qaj (zh zhp):=by walk_at "sp"
theorem zto (S:Src K mg "account" zhp qaj) (T:Txt K mg) (zfL:Def P w K mg base 8 "accounts_at" qao (ziE P w K)):Def P w K mg base 9 "account" qaj (zjh K):=by
 exists S.ok,zsf,0
 all_goals obtain ⟨a,A,b,z,rfl,B,O,⟨z0,z1⟩,h⟩:=h
 ·rfl
 refine ⟨_,(zf (zo (zq zB (zt zfL hr (za (pv 0) (za (zat (za (pv 1) zd)) zd))) zb (fun _ _=>rfl)))),?_⟩
 nofun
 intro p np
 have s1:=ze np (.lst [.int z])
 have e1:=zD (.lst [.int z]) np
 generalize upd H p (.lst [.int z])=H1 at s1 e1 ⊢
 nofun
 first | refine ⟨a,p,A,b,[],z,rfl,B.same s1,O,e1,by decide,by simp,fun d hd=>?_,fun q x ws H2 n2 s2 e2 hD=>?_⟩ | refine ⟨A,b,[],z,B.same s1,O,e1,by decide,by simp,fun d hd=>?_,fun q x ws H2 n2 s2 e2 hD=>?_⟩
 ·have:d=z:=by simpa using hd
  ac_rfl
 cases hD with
 | cons h1 h2 =>
  cases h2
  obtain ⟨y,dy,rfl,⟨_,ny⟩,eD⟩:=h1
  nofun
  first | exact ⟨q,_,_,_,rfl,rfl,SqL.of e2,rfl,h y dy H2 (zM s1 ny) (s1.trans s2) eD⟩ | exact h y dy H2 (zM s1 ny) (s1.trans s2) eD
def zrm (K:W.Frag):Sp:=fun vs H Q _=>L2.Ee4 fun a A b z=>L2.Aa5 (vs=[.ref a,.int z]) (zbd K H a A b) (AB b) ((0<=z/\z<=1000000)) (Q (.int ((zac b z).2 / uB b)) H)
theorem zvy:zj qaj qaj (zh zlT):=by walk_at "sp"
theorem zwH (S:Src K mg "owed" zlT qaj) (T:Txt K mg) (za0:zv P w K mg base 1 (cA K "Debt") "owed" qaa (zdF K)) (zdw:Def P w K mg base 9 "account" qaj (zjh K)):Def P w K mg base 10 "owed" qaj (zrm K):=by
 exists S.okF,zvy,0
 all_goals obtain ⟨a,A,b,z,rfl,B,O,hz,h⟩:=h
 ·rfl
 refine ⟨_,(zf (zo (zQ za0 T.zI hr (zt zdw hr (za (pv 0) (za (pv 1) zd)))))),?_⟩
 nofun
 first | refine ⟨a,A,b,z,rfl,B,O,hz,fun x dx H1 nx s1 eD=>?_⟩ | refine ⟨A,b,B,O,hz,fun x dx H1 nx s1 eD=>?_⟩
 nofun
 refine ⟨x,dx,_,rfl,eD,rfl,x,dx,uB b,_,_,rfl,eD,⟨O.ok.hu,O.u1⟩,?_⟩
 first | exact ⟨s1,h⟩ | exact h
structure zpk (e:Er):Prop where
 nb:e.1≠.base
 day:0<=e.2.1/\e.2.1<=999999
 row:FRow e.1 e.2.1 e.2.2
def zoq (es:List Er):Prop:=∀ e∈es,zpk e
noncomputable def rd3 (e:Er):PyData:=.tuple [.str e.1.word,.int e.2.1,.int e.2.2]
theorem zw2 (e f:Er):SeqAt.noMix (rd3 f) (rd3 e)=true:=by simp[rd3,SeqAt.noMix,SeqAt.noMixAll]
theorem zua (e f:Er):Spec.same (rd3 f) (rd3 e)=true->f.1.word=e.1.word:=by
 simp[rd3,Spec.same,Spec.sameAll]
 intro h _ _
 exact h
theorem zu0 (e:Er):Spec.same (rd3 e) (rd3 e)=true:=by simp[rd3,Spec.same,Spec.sameAll]
theorem zwr {e:Er} {fs:List Er}:decide (Spec.countIn (rd3 e) (fs.map rd3)≠0)=true↔∃ f∈fs,Spec.same (rd3 f) (rd3 e)=true:=by
 induction fs with
 | nil=>simp[Spec.countIn]
 | cons f fs ih =>
  have g:=PyProof.Rows.countIn_ge0 (rd3 e) (fs.map rd3)
  rw[decide_eq_true_iff] at ih ⊢
  rw[ybi,Spec.countIn]
  constructor
  ·intro h
   by_cases c:Spec.same (rd3 f) (rd3 e)=true
   ·exact ⟨f,yas,c⟩
   ·rw[if_neg c] at h
    obtain ⟨f',h1,h2⟩:=ih.mp (by omega)
    exact ⟨f',yam _ h1,h2⟩
  ·rintro ⟨f',h1,h2⟩
   rcases yak.mp h1 with rfl | h1
   ·rw[if_pos h2];omega
   ·have:=ih.mpr ⟨f',h1,h2⟩
    split <;> omega
theorem zxS {e:Er} {es:List Er} (he:e∈es):decide (Spec.countIn (rd3 e) ((es.filter za4).map rd3)≠0)=za4 e:=by
 rw[Bool.eq_iff_iff,zwr]
 constructor
 ·rintro ⟨f,hf,sm⟩
  have w:=zua e f sm
  have:=(yal.mp hf).2
  unfold za4 isW at this ⊢
  rwa [w] at this
 ·intro h
  exact ⟨e,yal.mpr ⟨he,h⟩,zu0 e⟩
theorem ztO (k:Ek):PyData.strOk k.word=true:=by cases k <;> decide +kernel
theorem zrG:∀ l:List Er,PyData.canLayAll0 (l.map rd3)=true
 | []=>by simp[PyData.canLayAll0]
 | s::l=>by simp[PyData.canLayAll0,PyData.canLay0,rd3,ztO,zrG l]
theorem zs2:∀ l:List Er,PyData.depthAll (l.map rd3)<=1
 | []=>by simp[PyData.depthAll]
 | s::l=>by
  have:=zs2 l
  simp[PyData.depthAll,PyData.depth,rd3]
  omega
theorem zvG (es:List Er):SeqAt.shaped (.list (es.map rd3))=true:=by
 have:=zs2 es
 simp[SeqAt.shaped,PyData.canLay0,PyData.depth,zrG]
 omega
theorem zvQ (e:Er):SeqAt.shaped (rd3 e)=true:=by simp[SeqAt.shaped,PyData.canLay0,PyData.canLayAll0,PyData.depth,PyData.depthAll,rd3,ztO]
theorem zvw {R:V->Er->Prop} {p:Er->Prop}:∀ {ys:List V},(∀ v∈ys,∃ e,R v e/\p e)->∃ es,LL R ys es/\∀ e∈es,p e
 | [],_=>⟨[],.nil,fun e he=>by cases he⟩
 | v::ys,h=>by
  obtain ⟨e,r,pe⟩:=h v yas
  obtain ⟨es,rs,ps⟩:=zvw (ys:=ys) fun u hu=>h u (yam _ hu)
  exact ⟨e::es,.cons r rs,fun x hx=>by rcases yak.mp hx with rfl | hx;exact pe;exact ps x hx⟩
theorem zwl {R:V->Er->Prop} {vs:List V} {es:List Er} (h:LL R vs es):LL R (vs.drop 1) (es.drop 1):=by
 cases h with
 | nil=>exact .nil
 | cons _ t=>exact t
theorem zrL (f:Er->Bool):∀ es:List Er,(es.filter fun e=>!f e).length+(es.filter f).length=es.length
 | []=>rfl
 | e::es=>by
  have:=zrL f es
  cases c:f e with
  | true=>rw[yan (p:=f) c,yap (p:=fun e=>!f e) (by simp[c]),ybc,ybc];omega
  | false=>rw[yap (p:=f) (by simp[c]),yan (p:=fun e=>!f e) (by simp[c]),ybc,ybc];omega
theorem zrx {e:Er} (h:zpk e):OkA 0 e:=by
 have w:∀ k:Ek,isW k.word e=true->e.1=k:=fun k he=>by
  have z:V.str e.1.word=V.str k.word:=of_decide_eq_true he
  revert z
  generalize e.1=j
  intro z
  injection z with z
  cases j <;> cases k <;> first | rfl | exact absurd z (by decide +kernel)
 exact ⟨h.day.1,fun z=>h.row.rt (.inl (w .rate z)),fun z=>h.row.rt (.inr (w .late z)),fun z=>h.row.out (w .out z)⟩
theorem abF {b:BkT} (I:zbf b) (F:zoq b.es) (g0:0<=b.g) (hl:b.es.length<=31):AB b:=by
 have y:0<yr b.kd/\yr b.kd<=133590:=by cases b.kd <;> decide
 exact zvC I (ydz 0) g0 (fun e he=>zrx (F e he)) hl (fun d=>zvI (by omega) (by omega)) (by unfold uB;omega) (by unfold uB;omega)
theorem zyk {ns:List Int} {b:BkT} (I:zbf b) (F:zoq b.es) (k:b.kd=kindOf ns) (g:b.g=zaO ns) (hl:b.es.length<=16):zr7 ns b:=by
 have gl:=zjg ns
 refine ⟨I,k,g,hl,abF I F (by omega) (by omega),fun s hs=>?_,by omega,fun e he=>(F e he).day.1,fun w hw s hs=>?_⟩
 ·obtain ⟨e,he,rfl⟩:=yah.mp hs
  obtain ⟨h1,h2⟩:=yal.mp he
  exact (F e h1).row.st (zme e.1 (of_decide_eq_true h2))
 ·obtain ⟨e,he,rfl⟩:=yah.mp hs
  obtain ⟨h1,h2⟩:=yal.mp he
  have o:=zrx (F e h1)
  rcases hw with rfl | rfl
  ·exact o.rt h2
  ·exact o.lt h2
theorem zye {b b2:BkT} (I:zbf b) (I2:zbf b2) (k:b2.kd=b.kd) (g:b2.g=b.g) (R:Rev b.es b2.es) (d:Int):zac b2 d=zac b d:=by
 show stA (Uk b2.kd) (uB b2) b2 d.toNat=stA (Uk b.kd) (uB b) b d.toNat
 rw[zvm I2,zvm I,show uB b2=uB b by unfold uB;rw[k],k,g,R.sa]
theorem zvB (e:Er):inV (.str e.1.word) [.str "rate", .str "late"]=za4 e:=by
 obtain ⟨k,d,x⟩:=e
 show inV (.str k.word) _=za4 (k,0,0)
 cases k <;> rfl
theorem zxi {K:W.Frag} {H:Hp} {vs:List V} {es:List Er} (h:RL3 H vs es):zfP K H vs (es.map rd3):=by
 induction h with
 | nil=>exact .nil
 | cons h _ ih =>
  obtain ⟨t,rfl,e⟩:=h
  exact .cons (.tup (SqT.of e) (.cons (.str _) (.cons (.int _) (.cons (.int _) .nil)))) ih
def zoD (K:W.Frag):Sp:=fun vs H Q _=>∃ (a:Addr) (ns:List Int),vs=[.ref a]/\SqL K H a (ns.map V.int)/\ns.length<=63/\∀ H',Q (.bl true) H'
theorem zaW:zj ["_law_script", "_law_rows", "_law_some", "_law_other", "_law_book_here", "_law_unit_here", "_law_k", "_law_xs", "_law_days", "_law_day", "_law_principal", "_law_units", "_law_charges", "_law_one", "_law_low", "_law_debt"] qad (zh zlX):=by walk_at "sp"
theorem zxD (S:Src K mg "law" zlX qad) (T:Txt K mg) (zJ:Def P w K mg base 1 "_law_cell_at" qaq (zbc K)) (zep:Def P w K mg base 3 "_law_far_row" qbq (zhh K)) (zeR:Def P w K mg base 6 "_law_book" qbf (zj7 K)) (zcl:Def P w K mg base 2 "_law_unit" qad (zgE K)) (zaR:Def P w K mg base 1 "_law_draws" qav (zc9 K)) (zjo:Def P w K mg base 5 "_law_far" qap (zk2 K)) (zmb:Def P w K mg base 10 "owed" qaj (zrm K)) (zdw:Def P w K mg base 9 "account" qaj (zjh K)) (zgM:zv P w K mg base 1 (cA K "Debt") "units" qaa (zjw K)) (zaZ:zv P w K mg base 1 (cA K "Debt") "principal" qaa (zcV K)) (zfM:Def P w K mg base 1 "_law_sum_to" qaf (ziu K)):Def P w K mg base 11 "law" qad (zoD K):=by
 exists S.ok,zaW,0
 all_goals obtain ⟨a,ns,rfl,hS,hl,h⟩:=h
 ·rfl
 refine ⟨_,(zc (zk (i:=1) zaW.nd rfl (by walk_at "lc") (zat (za (zap (za zy (za (zi zL (zt zJ hr (za (pv 0) (za zb zd))) (zbb (v:=1000000) (by decide +kernel) ⟨by decide,by decide,by decide⟩)) (za (zi zz zb (zi zL (zt zJ hr (za (pv 0) (za zb zd))) (zbb (v:=10000000) (by decide +kernel) ⟨by decide,by decide,by decide⟩))) zd)))) zd)))
  (zc (zk (i:=1) zaW.nd rfl (by walk_at "lc") (zi zcg (pv 1) (zbp (ix:=[]) ⟨rfl,by decide +kernel,rfl,by decide +kernel,rfl,(show (["_law_cell"]:List Str).Nodup by decide +kernel),by walk_at "cap", by walk_at "sub", by walk_at "has"⟩ (zG (zlQ zmU (pv 0) (ziG zb) (ziG zb))) (fun b=>(zt zep hr (za (pv 0) zd))))))
  (zc (zjX (zae (zu zaf (zi zL (zi zba (zt zJ hr (za (pv 0) (za zb zd))) zb) zb) zb (nomark _))
  (zf (zj1 (i:=1) zaW.nd rfl rfl (ix:=[0]) ⟨rfl,by decide +kernel,rfl,by decide +kernel,rfl,(show (["_law_row_here", "_law_script"]:List Str).Nodup by decide +kernel),by walk_at "cap", by walk_at "sub", by walk_at "has"⟩ (zG (zlQ zmU (pv 1) (ziG zb) zkW)) (fun b=>(zu (zok K) (zq (zaz K) (pv 0) zb (fun _ _=>rfl)) (zlQ (zui K) (zat (za zy (za zy zd))) (ziG (zi zL (zi zba (zt zJ hr (za (pv 1) (za zb zd))) zb) zb)) zkW) (by with_unfolding_all rfl))) (fun b=>(pv 0))))
   zS))
  (zc (zk (i:=2) zaW.nd rfl (by walk_at "lc") (zbl (ix:=[]) ⟨rfl,by decide +kernel,rfl,by decide +kernel,rfl,(show (["_law_row_here"]:List Str).Nodup by decide +kernel),by walk_at "cap", by walk_at "sub", by walk_at "has"⟩ (zG (pv 1)) (fun b=>(zu (zsw K) (zq (zaz K) (pv 0) zb (fun _ _=>rfl)) (zap (za zy (za zy zd))) (by with_unfolding_all rfl))) (fun b=>(pv 0))))
  (zc (zk (i:=3) zaW.nd rfl (by walk_at "lc") (zt zeR hr (za (pv 0) (za (zi zcg (zsT (zbl (ix:=[2]) ⟨rfl,by decide +kernel,rfl,by decide +kernel,rfl,(show (["_law_row_here", "_law_some"]:List Str).Nodup by decide +kernel),by walk_at "cap", by walk_at "sub", by walk_at "has"⟩ (zG (pv 1)) (fun b=>(zu (zsC K hr.zrv) (pv 0) (pv 1) (by with_unfolding_all rfl))) (fun b=>(pv 0))) zkW zkW (ziG (ziK zgv zb))) (pv 2)) zd))))
  (zc (zk (i:=4) zaW.nd rfl (by walk_at "lc") (zt zeR hr (za (pv 0) (za (pv 1) zd))))
  (zc (zk (i:=5) zaW.nd rfl (by walk_at "lc") (zt zcl hr (za (pv 0) zd)))
  (zc (zbQ PassesOwn.never rfl (zfi rfl T.zdx (za zb zd)) (zC (i:=6) zaW.nd rfl (by walk_at "lc"))
  (zc (zk (i:=7) zaW.nd rfl (by walk_at "lc") (zt zaR hr (za (zt zJ hr (za (pv 0) (za (zi zz zb (pv 6)) zd))) (za zb zd))))
  (zc (zk (i:=8) zaW.nd rfl (by walk_at "lc") (zi zcg (zbp (ix:=[]) ⟨rfl,by decide +kernel,rfl,by decide +kernel,rfl,(show (["_law_row_here"]:List Str).Nodup by decide +kernel),by walk_at "cap", by walk_at "sub", by walk_at "has"⟩ (zG (pv 1)) (fun b=>(zq (zaz K) (pv 0) zb (fun _ _=>rfl)))) (zat (za zb zd))))
  (zc (zk (i:=9) zaW.nd rfl (by walk_at "lc") (zq zB (zat (za (zi zL (zq zB (pv 7) zb (fun _ _=>rfl)) (zbb (v:=1000000) (by decide +kernel) ⟨by decide,by decide,by decide⟩)) (za zb (za (zq zB (pv 8) (zi zL (zq zB (pv 7) zb (fun _ _=>rfl)) (zx zaI rfl T.zdd PySem.boot_len (za (pv 8) zd))) (fun _ _=>rfl)) zd)))) (zi zL (zq zB (pv 7) zb (fun _ _=>rfl)) zb) (fun _ _=>rfl)))
  (zc (zfl (zt zjo hr (za (pv 0) (za (pv 1) (za (pv 9) zd)))) (zch rfl (zH (zC (i:=10) zaW.nd rfl (by walk_at "lc")) (zH (zC (i:=11) zaW.nd rfl (by walk_at "lc")) (zH (zC (i:=12) zaW.nd rfl (by walk_at "lc")) zbz)))))
  (zc (zbQ PassesOwn.never rfl (zG (zat (za (pv 4) (za (pv 3) zd)))) (zC (i:=13) zaW.nd rfl (by walk_at "lc"))
  (zc (zk (i:=14) zaW.nd rfl (by walk_at "lc") (zt zmb hr (za (pv 13) (za (pv 9) zd))))
  (zc (zk (i:=15) zaW.nd rfl (by walk_at "lc") (zt zdw hr (za (pv 13) (za (pv 9) zd))))
  (zf (zae (PW.pt (zvb (zu zmw (zQ zaZ T.zI hr (pv 15)) (pv 10) (nomark _)) (zvb (zu zmw (zQ zgM T.zI hr (pv 15)) (pv 11) (nomark _)) (zxj (zu zmw (pv 14) (zi zb2 (pv 11) (pv 5)) (nomark _))))))
  (zf (zo zmv))
   zS)))))
  (zf (zae (zu zmw (zt zmb hr (za (pv 4) (za (pv 9) zd))) (zi zz (zt zfM hr (za (pv 1) (za (pv 9) zd))) (zi zb2 (pv 12) (pv 5))) (nomark _))
  (zf (zo zmv))
   zS))))))))
  (zf (zo zmv)))))))))),?_⟩
 have sz:=sizeLine_eq
 nofun
 refine ⟨a,ns,1,rfl,hS,?_⟩
 nofun
 refine ⟨a,ns,2,rfl,hS,?_⟩
 obtain ⟨c1,hc1⟩:∃ c:Int,c=cellAt ns 1 % 1000000:=⟨_,rfl⟩
 obtain ⟨c2,hc2⟩:∃ c:Int,c=1+cellAt ns 2 % 10000000:=⟨_,rfl⟩
 have i1:0<=c1/\c1<=999999:=by ac_rfl
 have i2:0<=c2:=by ac_rfl
 nofun
 dsimp only
 rw[<-hc1,<-hc2]
 clear hc1 hc2
 intro t0 nt0
 have s0:=ze nt0 (.tup [.str "out", .int c1,.int c2])
 have y0:=zD (.tup [.str "out", .int c1,.int c2]) nt0
 nofun
 intro q0 nq0
 have s1:=s0.trans (ze nq0 (.lst [.ref t0]))
 have y1:=ze nq0 (.lst [.ref t0]) _ _ y0
 have e1:=zD (.lst [.ref t0]) nq0
 generalize upd (upd H t0 (.tup [.str "out", .int c1,.int c2])) q0 (.lst [.ref t0])=H1 at s1 y1 e1 ⊢
 have R1:RL3 H1 [.ref t0] [(Ek.out,c1,c2)]:=.cons ⟨t0,rfl,y1⟩ .nil
 have F1:zpk (Ek.out,c1,c2):=⟨(by intro z;cases z),i1,⟨(fun z=>by rcases z with z | z <;> cases z),fun _=>i2,(fun z=>by cases z)⟩⟩
 clear s0 y0 y1 nt0
 nofun
 refine ⟨a,_,rfl,s1.seq hS,fun qs nqs=>?_⟩
 obtain ⟨ms,ml,me⟩:=zuk ns 3 18
 rw[show zhX (ns.map V.int) (some 3) (some 18)=ms.map V.int from me]
 have s2:=ze nqs (.lst (ms.map V.int))
 have e2:=zD (.lst (ms.map V.int)) nqs
 have e12:=s2 _ _ e1
 have R2:=R1.same s2
 generalize upd H1 qs (.lst (ms.map V.int))=H2 at s2 e2 e12 R2 ⊢
 have s12:=s1.trans s2
 refine ⟨qs,rfl,⟨_,SqL.of e2⟩,fun l nl=>?_⟩
 refine zpV (zO (SqL.of e2)) nl (by rw[yab];ac_rfl) (fun _ v H'=>∃ e:Er,(∃ t,v=.ref t/\H' t=some (.tup (zb7 e.1 e.2.1 e.2.2)))/\zpk e) (fun _ _ _ _ s ⟨e,⟨t,x1,x2⟩,x3⟩=>⟨e,⟨t,x1,s _ _ x2⟩,x3⟩) (fun _ _ _ _ _ hL ⟨e,⟨t,x1,x2⟩,x3⟩=>⟨e,⟨t,x1,by rw[zr (zau x2 hL (by intro z;cases z))];exact x2⟩,x3⟩) ?_ ?_
 ·rintro i x H' Q' hx sH hq'
  rw[yaj] at hx
  obtain ⟨m,_,rfl⟩:=Option.map_eq_some_iff.mp hx
  nofun
  intro r k d x H3 s3 nr er kb di fr
  exact hq' _ _ s3 ⟨(k,d,x),⟨r,rfl,er⟩,⟨kb,di,fr⟩⟩
 rintro ys H3 s3 eL yl hP
 obtain ⟨es3,R3,F3⟩:=zvw (R:=fun v e=>∃ t,v=.ref t/\H3 t=some (.tup (zb7 e.1 e.2.1 e.2.2))) (p:=zpk) (ys:=ys) fun v hv=>by
  obtain ⟨j,hj⟩:=yav.mp hv
  exact hP j v hj
 have R3:RL3 H3 ys es3:=R3
 have l3:=R3.length
 rw[yab] at yl
 have s13:=s12.trans s3
 clear hP
 nofun
 refine ⟨q0,l,_,_,rfl,rfl,s3 _ _ e12,eL,by show 1+_<=_;ac_rfl,fun q1 nq1=>?_⟩
 have s4:=ze nq1 (.lst ([.ref t0]++ys))
 have e4:=zD (.lst ([.ref t0]++ys)) nq1
 have R4:RL3 _ ([.ref t0]++ys) ([(Ek.out,c1,c2)]++es3):=LL.append (R2.same (s3.trans s4)) (R3.same s4)
 have F4:zoq ([(Ek.out,c1,c2)]++es3):=fun e he=>by
  rcases yaf.mp he with z | z
  ·rw[ybs.mp z];exact F1
  ·exact F3 e z
 have l4:([(Ek.out,c1,c2)]++es3).length<=16:=by rw[yai];show 1+_<=16;ac_rfl
 generalize upd H3 q1 (.lst ([.ref t0]++ys))=H4 at s4 e4 R4 ⊢
 have s14:=s13.trans s4
 have hS4:=s14.seq hS
 generalize ([(Ek.out,c1,c2)]++es3)=es4 at R4 F4 l4
 generalize ([.ref t0]++ys)=rs4 at e4 R4
 clear R3 F3 R2 R1 F1 eL e12 e2 e1 l3 yl s3 s2 s13 s12 s1 me ml
 nofun
 refine ⟨fun σ' H'=>∃ (q:Addr) (rs:List V) (es:List Er),(Same H H'/\H' q=some (.lst rs)/\RL3 H' rs es)/\(zoq es/\es.length<=16)/\σ'=[some (.ref a),some (.ref q),none,none,none,none,none,none,none,none,none,none,none,none,none,none],?_,?_⟩
 ·nofun
  refine ⟨a,ns,2,rfl,hS4,?_⟩
  nofun
  ·refine ⟨q1,rs4,rfl,SqL.of e4,fun q2 nq2=>?_⟩
   rw[show zhX rs4 (some 1) none=rs4.drop 1 from zrk rs4 1]
   have u1:=ze nq2 (.lst (rs4.drop 1))
   have f1:=zD (.lst (rs4.drop 1)) nq2
   have R5:RL3 _ (rs4.drop 1) (es4.drop 1):=zwl (R4.same u1)
   generalize upd H4 q2 (.lst (rs4.drop 1))=H5 at u1 f1 R5 ⊢
   have l5:=R5.length
   have d5:(es4.drop 1).length<=es4.length:=by rw[yct];ac_rfl
   obtain ⟨kc,hkc,kc01⟩:∃ kc:Nat,cellAt ns 2 / 63 % 2=(kc:Int)/\(kc=0\/kc=1):=⟨(cellAt ns 2 / 63 % 2).toNat,by ac_rfl,by ac_rfl⟩
   refine ⟨q2,rfl,⟨_,SqL.of f1⟩,fun l nl=>?_⟩
   refine zj3 (zO (SqL.of f1)) nl (by ac_rfl) (es4.drop 1) l5.symm (fun e=>!inV (.str e.1.word) (([.str "out", .str "fee"]:List V).drop kc)) (fun H' v e=>∃ t,v=.ref t/\H' t=some (.tup (zb7 e.1 e.2.1 e.2.2))) (fun _ _ _ _ s ⟨t,x1,x2⟩=>⟨t,x1,s _ _ x2⟩) (fun _ _ _ _ _ hL ⟨t,x1,x2⟩=>⟨t,x1,by rw[zr (zau x2 hL (by intro z;cases z))];exact x2⟩) ?_ ?_ ?_
   ·rintro i x e H' Q' hx he sH hq'
    obtain ⟨e',he',t,rfl,ht⟩:=R5.get hx
    obtain rfl:e'=e:=Option.some.inj (he'.symm.trans he)
    have ht':=sH _ _ ht
    nofun
    intro pl npl
    have v1:=ze npl (.lst [.str "out", .str "fee"])
    have g1:=zD (.lst [.str "out", .str "fee"]) npl
    generalize upd H' pl (.lst [.str "out", .str "fee"])=H6 at v1 g1 ⊢
    nofun
    refine ⟨a,ns,2,rfl,(u1.trans (sH.trans v1)).seq hS4,?_⟩
    nofun
    refine ⟨pl,_,rfl,SqL.of g1,fun p5 np5=>?_⟩
    rw[hkc,zrk]
    refine ⟨p5,_,rfl,.inl (SqL.of zg),rfl,by rcases kc01 with rfl | rfl <;> rfl,_,rfl,?_⟩
    exact hq' _ (v1.trans (ze np5 _))
   ·rintro i x e H' Q' hx he fe sH hq'
    obtain ⟨e',he',t,rfl,ht⟩:=R5.get hx
    obtain rfl:e'=e:=Option.some.inj (he'.symm.trans he)
    nofun
    exact hq' _ _ (Same.refl _) ⟨t,rfl,sH _ _ ht⟩
   rintro ys H6 s6 eL hP
   have fl:=yaq (fun e:Er=>!inV (.str e.1.word) (([.str "out", .str "fee"]:List V).drop kc)) (es4.drop 1)
   nofun
   exact ⟨l,ys,_,⟨s14.trans (u1.trans s6),eL,hP⟩,⟨fun e he=>F4 e (List.mem_of_mem_drop (yal.mp he).1),yde (yaq _ _) (by ac_rfl)⟩,rfl⟩
  ·exact ⟨q1,rs4,es4,⟨s14,e4,R4⟩,⟨F4,l4⟩,rfl⟩
 clear R4 F4 l4 e4 s4 hS4
 rintro σ' H5 ⟨q,rs,es,⟨s5,hq,hR⟩,⟨F,el⟩,rfl⟩
 have xl:=hR.length
 nofun
 refine ⟨⟨_,SqL.of hq⟩,fun l1 nl1=>?_⟩
 refine zj3 (zO (SqL.of hq)) nl1 (by ac_rfl) es xl.symm za4 (fun H' v e=>∃ t,v=.ref t/\H' t=some (.tup (zb7 e.1 e.2.1 e.2.2))) (fun _ _ _ _ s ⟨t,x1,x2⟩=>⟨t,x1,s _ _ x2⟩) (fun _ _ _ _ _ hL ⟨t,x1,x2⟩=>⟨t,x1,by rw[zr (zau x2 hL (by intro z;cases z))];exact x2⟩) ?_ ?_ ?_
 ·rintro i x e H' Q' hx he sH hq'
  obtain ⟨e',he',t,rfl,ht⟩:=hR.get hx
  obtain rfl:e'=e:=Option.some.inj (he'.symm.trans he)
  nofun
  refine ⟨t,_,_,_,rfl,rfl,SqT.of (sH _ _ ht),rfl,?_⟩
  nofun
  intro pl npl
  have v1:=ze npl (.tup [.str "rate", .str "late"])
  have g1:=zD (.tup [.str "rate", .str "late"]) npl
  generalize upd H' pl (.tup [.str "rate", .str "late"])=H6 at v1 g1 ⊢
  refine ⟨pl,_,rfl,.inr (SqT.of g1),rfl,rfl,_,rfl,?_⟩
  rw[zvB]
  exact hq' _ v1
 ·rintro i x e H' Q' hx he fe sH hq'
  obtain ⟨e',he',t,rfl,ht⟩:=hR.get hx
  obtain rfl:e'=e:=Option.some.inj (he'.symm.trans he)
  nofun
  exact hq' _ _ (Same.refl _) ⟨t,rfl,sH _ _ ht⟩
 rintro ys1 H6 s6 eL1 hP1
 have hP1:RL3 H6 ys1 (es.filter za4):=hP1
 have f1:=yaq za4 es
 have y1:=hP1.length
 have hq6:=s6 _ _ hq
 have hR6:=hR.same s6
 nofun
 refine ⟨⟨_,SqL.of hq6⟩,fun l2 nl2=>?_⟩
 refine zb6 (zO (SqL.of hq6)) nl2 (by ac_rfl) es xl.symm (fun e=>!za4 e) (fun H' v e=>∃ t,v=.ref t/\H' t=some (.tup (zb7 e.1 e.2.1 e.2.2))) (fun _ _ _ _ s ⟨t,x1,x2⟩=>⟨t,x1,s _ _ x2⟩) (fun _ _ _ _ _ hL ⟨t,x1,x2⟩=>⟨t,x1,by rw[zr (zau x2 hL (by intro z;cases z))];exact x2⟩) ?_ ?_ ?_
 ·rintro i x e H' Q' hx he sH hq'
  obtain ⟨e',he',t,rfl,ht⟩:=hR6.get hx
  obtain rfl:e'=e:=Option.some.inj (he'.symm.trans he)
  nofun
  refine ⟨rd3 e',(es.filter za4).map rd3,.tup (SqT.of (sH _ _ ht)) (.cons (.str _) (.cons (.int _) (.cons (.int _) .nil))),.lst (SqL.of (sH _ _ eL1)) (zxi (hP1.same sH)),zvQ _,zvG _,(fun z hz=>by obtain ⟨f,_,rfl⟩:=yah.mp hz;exact zw2 e' f),_,rfl,?_⟩
  rw[zxS (yae he)]
  exact hq'
 ·rintro i x e H' Q' hx he fe sH hq'
  obtain ⟨e',he',t,rfl,ht⟩:=hR6.get hx
  obtain rfl:e'=e:=Option.some.inj (he'.symm.trans he)
  nofun
  exact hq' _ _ (Same.refl _) ⟨t,rfl,sH _ _ ht⟩
 rintro ys2 H7 s7 eL2 hP2
 have hP2:RL3 H7 ys2 (es.filter fun e=>!za4 e):=hP2
 have f2:=yaq (fun e=>!za4 e) es
 have y2:=hP2.length
 nofun
 refine ⟨l2,ys2,rfl,rfl,rfl,rfl,SqL.of eL2,fun p3 np3=>?_⟩
 have s8:=ze np3 (.lst ys2.reverse)
 have e8:=zD (.lst ys2.reverse) np3
 have R8:RL3 (upd H7 p3 (.lst ys2.reverse)) ys2.reverse (es.filter fun e=>!za4 e).reverse:=LL.reverse (hP2.same s8)
 generalize upd H7 p3 (.lst ys2.reverse)=H8 at s8 e8 R8 ⊢
 have s78:=s7.trans s8
 nofun
 refine ⟨p3,l1,_,_,rfl,rfl,e8,s78 _ _ eL1,by rw[ycw];ac_rfl,fun p4 np4=>?_⟩
 have s9:=ze np4 (.lst (ys2.reverse++ys1))
 have e9:=zD (.lst (ys2.reverse++ys1)) np4
 obtain ⟨es2,hes2⟩:∃ es2,es2=(es.filter fun e=>!za4 e).reverse++es.filter za4:=⟨_,rfl⟩
 have R9:RL3 (upd H8 p4 (.lst (ys2.reverse++ys1))) (ys2.reverse++ys1) es2:=by rw[hes2];exact LL.append (R8.same s9) (hP1.same (s78.trans s9))
 generalize upd H8 p4 (.lst (ys2.reverse++ys1))=H9 at s9 e9 R9 ⊢
 have RV:Rev es es2:=by rw[hes2];exact zxf es
 have m2:∀ e∈es2,e∈es:=fun e he=>by
  rw[hes2] at he
  rcases yaf.mp he with z | z
  ·exact (yal.mp (ycv.mp z)).1
  ·exact (yal.mp z).1
 have l2':es2.length<=16:=by rw[hes2,yai,ycw];have:=zrL za4 es;ac_rfl
 clear hes2
 have s59:=s6.trans (s78.trans s9)
 have s09:=s5.trans s59
 nofun
 refine ⟨a,p4,ns,_,es2,rfl,s09.seq hS,SqL.of e9,R9,by ac_rfl,fun e he=>⟨(F e (m2 e he)).nb,(F e (m2 e he)).day.1⟩,fun a2 A2 b2 H10 na2 s10 B2 I2 k2 g2 x2=>?_⟩
 have s510:=s59.trans s10
 have s010:=s09.trans s10
 nofun
 refine ⟨a,q,ns,rs,es,rfl,s010.seq hS,SqL.of (s510 _ _ hq),hR.same s510,by ac_rfl,fun e he=>⟨(F e he).nb,(F e he).day.1⟩,fun a1 A1 b1 H11 na1 s11 B1 I1 k1 g1 x1=>?_⟩
 have B2':=B2.same s11
 have s511:=s510.trans s11
 have s011:=s010.trans s11
 have hS11:=s011.seq hS
 have hq11:=s511 _ _ hq
 have hR11:=hR.same s511
 nofun
 refine ⟨a,ns,rfl,hS11,?_⟩
 nofun
 have gl:=zjg ns
 have O:=zyk (ns:=ns) I1 (by rw[x1];exact F) k1 g1 (by rw[x1];exact el)
 have AB1:=O.ab
 have AB2:AB b2:=abF I2 (by rw[x2];exact fun e he=>F e (m2 e he)) (by ac_rfl) (by rw[x2];ac_rfl)
 have a12:=fun d=>zye I1 I2 (by rw[k1,k2]) (by rw[g1,g2]) (by rw[x1,x2];exact RV) d
 have u12:uB b2=uB b1:=by unfold uB;rw[k1,k2]
 have yi:0<yr b1.kd/\yr b1.kd<=133590:=by cases b1.kd <;> decide
 have u0:0<uB b1/\uB b1<1152921504606846976:=by unfold uB;ac_rfl
 rw[<-k1,show 10000*yr b1.kd=uB b1 from rfl]
 subst x1
 refine zjS (fun j σ H'=>L2.zwI fun (z6 z7 z8 z9 z10 z11 z12 z13 z14 z15:Option V)=>Same H11 H'/\σ=[some (.ref a),some (.ref q),some (.ref l1),some (.ref a2),some (.ref a1),some (.int (uB b1)),z6,z7,z8,z9,z10,z11,z12,z13,z14,z15]) ⟨_,_,_,_,_,_,_,_,_,_,Same.refl _,rfl⟩ ?_ ?_
 ·rintro j σ H' hj ⟨z6,z7,z8,z9,z10,z11,z12,z13,z14,z15,sH,rfl⟩
  have hj':j<6:=hj
  have hSH:=sH.seq hS11
  have hqH:=sH _ _ hq11
  have hRH:=hR11.same sH
  nofun
  refine ⟨a,ns,18+j,congrArg (fun x=>[V.ref a,V.int x]) (show (18:Int)+(0+(j:Int))=((18+j:Nat):Int) by ac_rfl),hSH,?_⟩
  nofun
  intro px ms H1 t1 npx epx nl nn
  obtain ⟨n0,n1,rfl⟩:∃ a b,ms=[a,b]:=by
   match ms,nl with
   | [a,b],_=>exact ⟨a,b,rfl⟩
  have i0:=nn n0 (by simp)
  have i1:=nn n1 (by simp)
  have hq1:=t1 _ _ hqH
  have hR1:=hRH.same t1
  nofun
  refine ⟨⟨_,SqL.of hq1⟩,fun ld nld=>?_⟩
  refine comp_map (zO (SqL.of hq1)) nld (by ac_rfl) b1.es xl.symm (fun _ v e=>v=.int e.2.1) (fun _ _ _ _ _ z=>z) (fun _ _ _ _ _ _ z=>z) ?_ ?_
  ·rintro i x e H' Q' hx he sH hq'
   obtain ⟨e',he',t,rfl,ht⟩:=hR1.get hx
   obtain rfl:e'=e:=Option.some.inj (he'.symm.trans he)
   nofun
   refine ⟨t,_,_,_,rfl,rfl,SqT.of (sH _ _ ht),rfl,?_⟩
   exact hq' _ _ (Same.refl _) rfl
  rintro yd H2 t2 eLd hPd
  obtain rfl:=LL.eqm hPd
  clear hPd
  nofun
  intro pn npn
  have t3:=ze npn (.lst [.int 999999])
  have f3:=zD (.lst [.int 999999]) npn
  generalize upd H2 pn (.lst [.int 999999])=H3 at t3 f3 ⊢
  obtain ⟨A,hA⟩:∃ A:List Int,A=b1.es.map (fun e:Er=>e.2.1)++[999999]:=⟨_,rfl⟩
  have Ain:∀ x∈A,0<=x/\x<=999999:=fun x hx=>by
   rw[hA] at hx
   rcases yaf.mp hx with z | z
   ·obtain ⟨e,he,rfl⟩:=yah.mp z
    exact (F e he).day
   ·rw[ybs.mp z]
    decide
  have Al:0<A.length/\A.length<=17:=by rw[hA,yai,yab];exact ⟨Nat.succ_pos _,by show _+1<=17;ac_rfl⟩
  refine ⟨ld,pn,_,_,rfl,rfl,t3 _ _ eLd,f3,by rw[yab];show _+1<=_;ac_rfl,fun q7 nq7=>?_⟩
  rw[show (b1.es.map (fun e:Er=>V.int e.2.1)++[V.int 999999])=A.map V.int by rw[hA,yau,ybf];rfl]
  have t4:=ze nq7 (.lst (A.map V.int))
  have f4:=zD (.lst (A.map V.int)) nq7
  generalize upd H3 q7 (.lst (A.map V.int))=H4 at t4 f4 ⊢
  have t14:=t1.trans (t2.trans (t3.trans t4))
  have ex4:=(t2.trans (t3.trans t4)) _ _ epx
  clear hA eLd f3 t2 t3 t4
  have z0:=ydy n0 (show (A.length:Int)≠0 by ac_rfl)
  have z1:=ydx n0 (show (0:Int)<(A.length:Int) by ac_rfl)
  nofun
  refine ⟨px,_,_,_,rfl,rfl,SqL.of ex4,rfl,?_⟩
  nofun
  refine ⟨px,_,_,_,rfl,rfl,SqL.of ex4,rfl,?_⟩
  nofun
  refine ⟨q7,_,rfl,.inl (SqL.of f4),?_⟩
  rw[yab]
  nofun
  obtain ⟨v,hv0,hm⟩:=ziA (xs:=A.map V.int) (k:=n0 % (A.length:Int)) z0 (by rw[yab];exact z1)
  obtain ⟨y,hy,rfl⟩:=yah.mp hm
  have yi':=Ain y hy
  refine ⟨q7,_,_,_,rfl,rfl,SqL.of f4,hv0,?_⟩
  clear hv0 hm hy
  nofun
  intro p8 np8
  have t5:=ze np8 (.lst [.int (n0 % 1000000),.int 999999,.int y])
  have f5:=zD (.lst [.int (n0 % 1000000),.int 999999,.int y]) np8
  have ex5:=t5 _ _ ex4
  generalize upd H4 p8 (.lst [.int (n0 % 1000000),.int 999999,.int y])=H5' at t5 f5 ex5 ⊢
  nofun
  refine ⟨px,_,_,_,rfl,rfl,SqL.of ex5,rfl,?_⟩
  nofun
  obtain ⟨v,hv0,hm⟩:=ziA (xs:=[.int (n0 % 1000000),.int 999999,.int y]) (k:=n1 % 3) (by ac_rfl) (by simp;ac_rfl)
  obtain ⟨D,rfl,D0,D1⟩:=(zay ⟨_,rfl,by ac_rfl,by ac_rfl⟩ (zay ⟨_,rfl,by ac_rfl,by ac_rfl⟩ (zay ⟨_,rfl,by ac_rfl,by ac_rfl⟩ zph)):∀ v∈([.int (n0 % 1000000),.int 999999,.int y]:List V),∃ w:Int,v=.int w/\0<=w/\w<=999999) v hm
  refine ⟨p8,_,_,_,rfl,rfl,SqL.of f5,hv0,?_⟩
  clear hv0 hm f5 ex5 ex4 f4
  have t15:=t14.trans t5
  have sB:=sH.trans t15
  nofun
  refine ⟨a,q,ns,rs,b1,D,rfl,sB.seq hS11,sB _ _ hq11,hR11.same sB,O,⟨D0,by ac_rfl⟩,fun tf C H6' ntf t6 ef cf=>?_⟩
  have sC:=sB.trans t6
  refine ⟨tf,_,rfl,SqT.of ef,rfl,?_⟩
  nofun
  intro pb npb
  have t7:=ze npb (.lst [.ref a1,.ref a2])
  have f7:=zD (.lst [.ref a1,.ref a2]) npb
  generalize upd H6' pb (.lst [.ref a1,.ref a2])=H7' at t7 f7 ⊢
  have sD:=sC.trans t7
  nofun
  refine ⟨⟨_,SqL.of f7⟩,zbH (xs:=[.ref a1,.ref a2]) (fun i σ H'=>∃ w13 w14 w15:Option V,Same H7' H'/\σ=[some (.ref a),some (.ref q),some (.ref l1),some (.ref a2),some (.ref a1),some (.int (uB b1)),some (.int (0+(j:Int))),some (.ref px),some (.ref q7),some (.int D),some (.int (zac b1 D).1),some (.int (zac b1 D).2),some (.int C),w13,w14,w15])
   ⟨_,_,_,Same.refl _,rfl⟩ ?_ ?_ ?_⟩
  ·rintro i σ H' _ ⟨_,_,_,s,_⟩
   exact SqL.of (s _ _ f7)
  ·rintro i x σ H8' hx ⟨w13,w14,w15,s8',rfl⟩
   have sE:=sD.trans s8'
   obtain ⟨ao,Ao,bo,rfl,Bo,ABo,ea,eu⟩:∃ (ao:Addr) (Ao:BkA) (bo:BkT),x=.ref ao/\zbd K H8' ao Ao bo/\AB bo/\zac bo D=zac b1 D/\uB bo=uB b1:=by
    match i,hx with
    | 0,hx=>exact ⟨a1,A1,b1,(Option.some.inj hx).symm,B1.same sE,AB1,rfl,rfl⟩
    | 1,hx=>exact ⟨a2,A2,b2,(Option.some.inj hx).symm,B2'.same sE,AB2,a12 D,u12⟩
    | n+2,hx=>exact absurd hx (by simp)
   nofun
   refine ⟨ao,Ao,bo,D,rfl,Bo,ABo,⟨D0,by ac_rfl⟩,?_⟩
   rw[ea,eu]
   nofun
   refine ⟨ao,Ao,bo,D,rfl,Bo,ABo,⟨D0,by ac_rfl⟩,fun xd dx H9' nxd s9' Dx=>?_⟩
   rw[ea,eu] at Dx
   nofun
   refine ⟨xd,dx,_,rfl,Dx,rfl,xd,dx,_,_,_,rfl,Dx,?_⟩
   nofun
   all_goals try ac_rfl
   refine ⟨xd,dx,_,rfl,Dx,rfl,xd,dx,_,_,_,rfl,Dx,?_⟩
   nofun
   all_goals try ac_rfl
   exact ⟨_,_,_,s8'.trans s9',rfl⟩
  rintro σ H8' ⟨w13,w14,w15,s8',rfl⟩
  have sE:=sD.trans s8'
  nofun
  refine ⟨a1,A1,b1,D,rfl,B1.same sE,AB1,⟨D0,by ac_rfl⟩,?_⟩
  nofun
  refine ⟨q,rs,b1.es,D,rfl,sE _ _ hq11,hR11.same sE,by ac_rfl,?_⟩
  have ow:(zac b1 D).2 / uB b1=cen b1.es D+C / uB b1:=by rw[cf];exact Dbt.ztP u0.1
  nofun
  ·rename_i z
   exact absurd ow z
  ·exact ⟨_,_,_,_,_,_,_,_,_,_,sE,rfl⟩
 ·rintro σ H' ⟨z6,z7,z8,z9,z10,z11,z12,z13,z14,z15,sH,rfl⟩
  nofun
  exact h _
end
theorem zw1 {K:W.Frag} {mg:Str->Option Value} (T:Txt K mg) (ziI:Src K mg "table_of" zf0 qak) (zmL:Src K mg "begun" zkI qat) (zet:Src K mg "running_sums" zcS ["rows"]) (zlB:Src K mg "joined" zjq ["spans"]) (ziY:Src K mg "is_whole" zf3 ["thing"]) (zkf:Src K mg "is_leap" zhd qah) (ziU:Src K mg "new_year" zfZ qah) (zlP:Src K mg "summed" zjb qak) (zeE:Src K mg "_law_cell_at" zcU qaq) (zgf:Src K mg "_law_draws" zef qav) (zgn:Src K mg "_law_value" zd2 qbg) (zib:Src K mg "_law_leap" zeV qas) (zih:Src K mg "_law_sums" zeN qbh) (zgT:Src K mg "_law_deeds" zdH qbi) (zfs:Src K mg "_law_stands" zc3 qaf) (zjM:Src K mg "_law_at" zhv qbj) (zfz:Src K mg "_law_sum_to" zdc qaf) (ziV:Src K mg "value_at" zfY qbk) (zid:Src K mg "late_sums" zeT qag) (zmV:Src K mg "moved" zkB qal) (zes:Src K mg "turning_days" zcT qag) (zgH:Src K mg "deeds_upto" zdI qao) (zg6:Src K mg "month_days" zec qay) (zjP:Src K mg "year_of" zhf qan) (zhV:Src K mg "is_within" zeS qba) (zlG:Src K mg "sum_by" ziL qae) (zkg:Src K mg "days_of" zg9 qae) (zgW:Src K mg "rate_table" zd4 qae) (zfw:Src K mg "still_spans" zc5 qbl) (zjc:Src K mg "_law_row" zf1 qbm) (zgt:Src K mg "_law_grace" zdX qad) (zgI:Src K mg "_law_count" zdD qad) (zcW:Src K mg "_law_month_size" zbL qaw) (zhP:Src K mg "_law_unit" zeM qad) (zdi:Src K mg "_law_all_deeds" zb3 qbn) (zgC:Src K mg "_law_moved" zd5 qaf) (zlM:Src K mg "stands" zi9 qal) (zke:Src K mg "date_of" zhb qan) (zfr:Src K mg "check_terms" zda qbb) (zfD:Src K mg "fallen_dues" zc7 qbc) (zhK:Src K mg "_law_date" zeQ qbo) (zek:Src K mg "_law_lacking" zcC qbp) (zgR:Src K mg "_law_edges" zdP qap) (zeg:Src K mg "_law_far_row" zcE qbq) (zkh:Src K mg "burdens" zhn qag) (ziX:Src K mg "do_deeds" zf5 qbd) (zhA:Src K mg "_law_made" zeP qbr) (zhN:Src K mg "_law_upto" ze2 qbs) (zi1:Src K mg "_law_far" zf7 qap) (zgq:Src K mg "charged_by" zd7 qbt) (zh5:Src K mg "_law_book" ze9 qbf) (zey:Src K mg "debts_behind" zcF qbu) (zfB:Src K mg "accounts_at" zc1 qao) (zjT:Src K mg "account" zhp qaj) (zqi:Src K mg "owed" zlT qaj) (zov:Src K mg "law" zlX qad) (zgJ:zp K (cA K (Ek.cls .out)) "word" "Out.word" zf6 qaa) (zgj:zp K (cA K (Ek.cls .fee)) "word" "Fee.word" zfV qaa) (zgK:zp K (cA K (Ek.cls .pay)) "word" "Pay.word" zfX qaa) (zgo:zp K (cA K (Ek.cls .due)) "word" "Due.word" zfW qaa) (zfy:zp K (cA K (Ek.cls .turn)) "word" "Turn.word" ze8 qaa) (zfE:zp K (cA K (Ek.cls .rate)) "word" "Rate.word" zfd qaa) (zfK:zp K (cA K (Ek.cls .late)) "word" "Late.word" zeX qaa) (zeC:zp K (cA K (Ek.cls .still)) "word" "Still.word" zdR qaa) (zfN:zp K (cA K (Ek.cls .base)) "word" "Entry.word" zd9 qaa) (zi8:zp K (cA K "Due") "__init__" "AmountEntry.__init__" zX qai) (ziR:zp K (cA K "Fee") "__init__" "AmountEntry.__init__" zX qai) (zhR:zp K (cA K "Late") "__init__" "RateEntry.__init__" zaY qar) (ziS:zp K (cA K "Out") "__init__" "AmountEntry.__init__" zX qai) (zjl:zp K (cA K "Pay") "__init__" "AmountEntry.__init__" zX qai) (zh0:zp K (cA K "Rate") "__init__" "RateEntry.__init__" zaY qar) (zgN:zp K (cA K "Still") "__init__" "Still.__init__" zd8 qaz) (zie:zp K (cA K "Turn") "__init__" "Entry.__init__" zbu qab) (zeI:zoJ K (cA K "Entry") "__init__" "Entry.__init__" zbu qab) (zhY:zp K (cA K "Debt") "grow" "Debt.grow" ze4 qax) (zhD:zp K (cA K "Debt") "__init__" "Debt.__init__" ze1 qau) (zif:zp K (cA K "Debt") "owed" "Debt.owed" zeY qaa) (zdf:zp K (cA K "Debt") "principal" "Debt.principal" zcc qaa) (zgY:zp K (cA K "Debt") "units" "Debt.units" zdN qaa) (zg2:zp K (cA K "Book") "count" "Book.count" zdB qaa) (zdq:zp K (cA K "Book") "deed_days" "Book.deed_days" zb4 qaa) (zh6:zp K (cA K "Book") "dues" "Book.dues" zeZ qaa) (zhQ:zp K (cA K "Book") "fees" "Book.fees" zfe qaa) (zgu:zp K (cA K "Book") "grace" "Book.grace" zdQ qaa) (zgD:zp K (cA K "Book") "lates" "Book.lates" zd0 qaa) (zhT:zp K (cA K "Book") "outs" "Book.outs" zeL qaa) (zh3:zp K (cA K "Book") "pays" "Book.pays" zeO qaa) (zgr:zp K (cA K "Book") "rates" "Book.rates" zd1 qaa) (zfJ:zp K (cA K "Book") "stills" "Book.stills" zdb qaa) (zgx:zp K (cA K "Book") "turns" "Book.turns" zdL qaa) (zdj:zp K (cA K "Debt") "add_cents" "Debt.add_cents" zce qac) (zhM:zp K (cA K "Debt") "turn" "Debt.turn" ze7 qaa) (zh7:zp K (cA K "Debt") "copy" "Debt.copy" zfa qaa) (zjp:zp K (cA K "Debt") "fee" "Debt.fee" zf2 qac) (zhE:zp K (cA K "Debt") "lend" "Debt.lend" zeU qac) (zhS:zp K (cA K "Debt") "take" "Debt.take" ze0 qac) (zh2:zp K (cA K "Book") "__init__" "Book.__init__" zeK qbe) (zgh:zp K (cA K (Kd.cls .plain)) "year" "Count.year" zed qaa) (zhx:zp K (cA K (Kd.cls .bank)) "year" "Bank.year" zeW qaa) (zfA:zp K (cA K (Kd.cls .thirty)) "year" "Thirty.year" zc6 qaa) (zgi:zp K (cA K (Kd.cls .exact)) "year" "Exact.year" zea qaa) (zg7:zp K (cA K (Kd.cls .plain)) "unit" "Count.unit" zaG qaa) (zh4:zp K (cA K (Kd.cls .bank)) "unit" "Count.unit" zaG qaa) (zfu:zp K (cA K (Kd.cls .thirty)) "unit" "Count.unit" zaG qaa) (zgO:zp K (cA K (Kd.cls .exact)) "unit" "Count.unit" zaG qaa) (zgG:zp K (cA K (Kd.cls .plain)) "upto" "Count.upto" zbW qab) (zhL:zp K (cA K (Kd.cls .bank)) "upto" "Count.upto" zbW qab) (zfG:zp K (cA K (Kd.cls .thirty)) "upto" "Thirty.upto" zc8 qab) (zgk:zp K (cA K (Kd.cls .exact)) "upto" "Exact.upto" zd3 qab) (zex:zp K (cA K (Kd.cls .plain)) "weight" "Count.weight" zav qam) (zfq:zp K (cA K (Kd.cls .bank)) "weight" "Count.weight" zav qam) (zdY:zp K (cA K (Kd.cls .thirty)) "weight" "Count.weight" zav qam) (zew:zp K (cA K (Kd.cls .exact)) "weight" "Count.weight" zav qam) {P:Program} {w:World} {base:Heap}:Def P w K mg base 11 "law" qad (zoD K):=by
 have zji:=zse (P:=P) (w:=w) (base:=base) ziI T
 have zcL:=zv6 (P:=P) (w:=w) (base:=base) zmL T
 have zbn:=zna (P:=P) (w:=w) (base:=base) zet T
 have zhZ:=zqX (P:=P) (w:=w) (base:=base) zhY T
 have zcj:=zq9 (P:=P) (w:=w) (base:=base) zhD T
 have za0:=zqQ (P:=P) (w:=w) (base:=base) zif T
 have zaZ:=zlx (P:=P) (w:=w) (base:=base) zdf T
 have zgM:=zpQ (P:=P) (w:=w) (base:=base) zgY T
 have zlv:=zt9 (P:=P) (w:=w) (base:=base) zlB T
 have ziM:=zsc (P:=P) (w:=w) (base:=base) ziY T
 have zdt:=ztz (P:=P) (w:=w) (base:=base) zkf T
 have zbj:=zr8 (P:=P) (w:=w) (base:=base) ziU T
 have zb1:∀ kd:Kd,zv P w K mg base 1 (cA K kd.cls) "year" qaa (zcw kd K):=fun kd=>by
  cases kd
  ·exact zoA .plain (by simp) zgh T
  ·exact zqp .bank (by simp) zhx T
  ·exact zod .thirty (by simp) zfA T
  ·exact zp9 .exact (by simp) zgi T
 have zaa:=znO (P:=P) (w:=w) (base:=base) zeI T
 have zhF:=zo6 (P:=P) (w:=w) (base:=base) "Turn" zie T
 have zbe:∀ k:Ek,zv P w K mg base 1 (cA K k.cls) "word" qaa (zaD k K):=fun k=>by
  cases k
  ·exact zsE .out (by simp) zgJ T
  ·exact zsq .fee (by simp) zgj T
  ·exact zsA .pay (by simp) zgK T
  ·exact zrV .due (by simp) zgo T
  ·exact zqz .turn (by simp) zfy T
  ·exact zq4 .rate (by simp) zfE T
  ·exact zqA .late (by simp) zfK T
  ·exact zo0 .still (by simp) zeC T
  ·exact zpE .base (by simp) zfN T
 have zeh:=zud (P:=P) (w:=w) (base:=base) zlP T
 have zdE:=zpS (P:=P) (w:=w) (base:=base) zg2 T
 have zdn:=zlz (P:=P) (w:=w) (base:=base) zdq T
 have zcm:=zqL (P:=P) (w:=w) (base:=base) zh6 T
 have zic:=zqZ (P:=P) (w:=w) (base:=base) zhQ T
 have zbX:=zoP (P:=P) (w:=w) (base:=base) zgu T
 have zbR:=zo5 (P:=P) (w:=w) (base:=base) zgD T
 have zhW:=zqU (P:=P) (w:=w) (base:=base) zhT T
 have za3:=zrc (P:=P) (w:=w) (base:=base) zh3 T
 have zbY:=zqb (P:=P) (w:=w) (base:=base) zgr T
 have zbA:=zob (P:=P) (w:=w) (base:=base) zfJ T
 have zgL:=zo3 (P:=P) (w:=w) (base:=base) zgx T
 have zJ:=zmO (P:=P) (w:=w) (base:=base) zeE T
 have zaR:=zpU (P:=P) (w:=w) (base:=base) zgf T
 have zgP:=zpW (P:=P) (w:=w) (base:=base) zgn T
 have zaQ:=zqE (P:=P) (w:=w) (base:=base) zib T
 have zhI:=zqI (P:=P) (w:=w) (base:=base) zih T
 have zgs:=zoH (P:=P) (w:=w) (base:=base) zgT T
 have zbC:=zn3 (P:=P) (w:=w) (base:=base) zfs T
 have zhk:=zt1 (P:=P) (w:=w) (base:=base) zjM T
 have zfM:=zoh (P:=P) (w:=w) (base:=base) zfz T
 have zcG:=zrT ziV T zcL
 have zh8:=zq5 zid T zbn zcm zbX
 have zaq:=zlI zdj T za0
 have zhO:=zqH zhM T za0
 have zgd:=zvE zmV T zcL
 have zeD:=znf zes T zbY zbR za3 zcm zbX zbA
 have zgw:=zoX zgH T zhW zic zgL za3 zdn
 have zdW:=zpo zg6 T zdt
 have zdu:=ztY zjP T zbj
 have zlN:∀ kd:Kd,zv P w K mg base 2 (cA K kd.cls) "unit" qaa (zjZ kd K):=fun kd=>by
  cases kd
  ·exact zd6 .plain (by simp) zg7 T zb1
  ·exact zd6 .bank (by simp) zh4 T zb1
  ·exact zd6 .thirty (by simp) zfu T zb1
  ·exact zd6 .exact (by simp) zgO T zb1
 have zjj:=zbE "Due" zi8 T zaa
 have ziQ:=zbE "Fee" ziR T zaa
 have ziH:=zbE "Out" ziS T zaa
 have ziW:=zbE "Pay" zjl T zaa
 have zhH:=zgB "Late" zhR T zaa
 have zh9:=zgB "Rate" zh0 T zaa
 have zgU:=zpN "Still" zgN T zaa
 have zhz:=zqu zhV T ziM
 have zcu:=zug zlG T zeh zbe
 have zko:=zty zkg T zbe
 have zdJ:=zpl zgW T zji zbe
 have zft:=zn7 zfw T zbe zlv
 have zja:=zrW zjc T zaR zgP
 have zaT:=zp2 zgt T zJ
 have zg4:=zoQ zgI T zJ
 have zaB:=zkZ zcW T zaQ
 have zcl:=zqJ zhP T zJ
 have zdh:=zlC zdi T zhI
 have zb0:=zpT zgC T zbC
 have zhC:=zqW zh7 T zcj
 have zjm:=zrX zjp T zaq
 have zhy:=zqD zhE T zaq
 have zhJ:=zqq zhS T zaq
 have zlD:=zuY zlM T zgd
 have zkb:=ztK zke T zdu zbj zdW
 have zfx:=znS zfr T zhz
 have zfp:=zoa zfD T zeh zcu zgd
 have zhB:=zq6 zhK T zaQ zaB
 have zej:=zmB zek T zaT zb0
 have zgm:=zqc zgR T zb0 zaT
 have zep:=zm9 zeg T zja zaR
 have zkp:=zsL zkh T zbA zbY zbR zh8 zbn za3 zeD zlD zcG
 have zjk:=zsi ziX T zhy zjm zhO zhJ
 have zdl:∀ kd:Kd,zv P w K mg base 4 (cA K kd.cls) "upto" qab (zfj kd K):=fun kd=>by
  cases kd
  ·exact zka .plain (by simp) zgG T
  ·exact zka .bank (by simp) zhL T
  ·exact znW .thirty (by simp) zfG T zkb
  ·exact zpf .exact (by simp) zgk T zdu zdt zb1 zbj
 have zh1:=zqP zh2 T zfx zcu zko zdJ zft zfp
 have zhU:=zqS zhA T ziH ziQ zhF ziW zjj zh9 zhH zgU
 have ze6:=zqB zhN T zhB zaB zaQ
 have zjn:∀ kd:Kd,zv P w K mg base 5 (cA K kd.cls) "weight" qam (zia kd K):=fun kd=>by
  cases kd
  ·exact zcQ .plain (by simp) zex T zdl
  ·exact zcQ .bank (by simp) zfq T zdl
  ·exact zcQ .thirty (by simp) zdY T zdl
  ·exact zcQ .exact (by simp) zew T zdl
 have zjo:=zr6 zi1 T zJ zcl zdh zgm zgs zhk zej ze6 zbC
 have zge:=zpd zgq T zcL zjn
 have zeR:=zqV zh5 T zh1 zhU zaT zg4
 have zez:=zmF zey T zkp zcj zlN zdE zhZ zge zaZ zjk zhC
 have zfL:=znL zfB T zgw zez
 have zdw:=zto zjT T zfL
 have zmb:=zwH zqi T za0 zdw
 have zxH:=zxD zov T zJ zep zeR zcl zaR zjo zmb zdw zgM zaZ zfM
 exact zxH
end My
local macro_rules | `(tactic| walk_at "m")=>do
 let [i,f,k,l,c,b]:=[`i,`f,`k,`l,`c,`b].map Lean.mkIdent | unreachable!
 `(tactic| ((case $i:ident=>k_is);(case $f:ident=>k_is);(case $k:ident=>k_is);(case $l:ident=>k_is);(case $c:ident=>k_is);(case $b:ident=>walk_at "s1")))
local macro_rules | `(tactic| walk_at "n")=>do
 let [a,l,c,k,b]:=[`a,`l,`c,`k,`b].map Lean.mkIdent | unreachable!
 `(tactic| ((case $a:ident=>k_is);(case $l:ident=>k_is);(case $c:ident=>k_is);(case $k:ident=>k_is);(case $b:ident=>walk_at "s1")))
local macro_rules | `(tactic| exists $x:term,$y:term,$z:term,$t:term,$u:term)=>do
 let [i,f,k,l,c,b]:=[`i,`f,`k,`l,`c,`b].map Lean.mkIdent | unreachable!
 `(tactic| (refine' L2.zw (m:=$x) (qual:=$y) (st:=$z) (ps:=$t) $u ?$i ?$f ?$k ?$l ?$c ?$b;walk_at "m"))
local macro_rules | `(tactic| exists $x:term,$y:term,$t:term)=>do
 let [X,G,a,l,c,k,b]:=[`KX,`G,`a,`l,`c,`k,`b].map Lean.mkIdent | unreachable!
 `(tactic| (refine' L2.zE (x:=$x) (st:=$y) (ps:=$t) $X $G ?$a ?$l ?$c ?$k ?$b;walk_at "n"))
open PySem PySem.W PyProof.Rows L2 My
set_option maxRecDepth 100000 in
set_option maxHeartbeats 0 in
theorem PySem.Challenge.cw_loanroll_k47_whole_far_accounts_holds : PySem.Challenge.rw_loanroll_k47_whole_far_accounts.Holds := by
 refine _root_.hd ?_
 k_fill
 refine zuo (l:=PySem.Challenge.rw_loanroll_k47_whole_far_accounts) (lv:=11) (sp:=zoD) (x:="_law_script") (st:=zlX) rfl rfl rfl ⟨rfl,by decide,by decide⟩ (fun w h Y=>PySem.W.kIn_of Y) ?F (fun K H a ns hl hS=>⟨a,ns,rfl,hS,hl,fun _=>rfl⟩)
 case F =>
  intro w mg h KX G
  have zoN:mg "bool" = none:=mg_none_of KX G (by k_is)
  have zfm:mg "dict" = none:=mg_none_of KX G (by k_is)
  have zhq:mg "int" = none:=mg_none_of KX G (by k_is)
  have zcA:mg "isinstance" = none:=mg_none_of KX G (by k_is)
  have zdd:mg "len" = none:=mg_none_of KX G (by k_is)
  have zcv:mg "list" = none:=mg_none_of KX G (by k_is)
  have zcp:mg "max" = none:=mg_none_of KX G (by k_is)
  have zcM:mg "min" = none:=mg_none_of KX G (by k_is)
  have zdx:mg "range" = none:=mg_none_of KX G (by k_is)
  have ziZ:mg "set" = none:=mg_none_of KX G (by k_is)
  have zbG:mg "sorted" = none:=mg_none_of KX G (by k_is)
  have zkC:mg "sum" = none:=mg_none_of KX G (by k_is)
  have a_Bank:=by refine' zbs (x:="Bank") KX ?a;case a=>k_is
  have a_Book:=by refine' zbs (x:="Book") KX ?a;case a=>k_is
  have a_Count:=by refine' zbs (x:="Count") KX ?a;case a=>k_is
  have a_Debt:=by refine' zbs (x:="Debt") KX ?a;case a=>k_is
  have a_Due:=by refine' zbs (x:="Due") KX ?a;case a=>k_is
  have a_Entry:=by refine' zbs (x:="Entry") KX ?a;case a=>k_is
  have a_Exact:=by refine' zbs (x:="Exact") KX ?a;case a=>k_is
  have a_Fee:=by refine' zbs (x:="Fee") KX ?a;case a=>k_is
  have a_Late:=by refine' zbs (x:="Late") KX ?a;case a=>k_is
  have a_Out:=by refine' zbs (x:="Out") KX ?a;case a=>k_is
  have a_Pay:=by refine' zbs (x:="Pay") KX ?a;case a=>k_is
  have a_Rate:=by refine' zbs (x:="Rate") KX ?a;case a=>k_is
  have a_Still:=by refine' zbs (x:="Still") KX ?a;case a=>k_is
  have a_Thirty:=by refine' zbs (x:="Thirty") KX ?a;case a=>k_is
  have a_Turn:=by refine' zbs (x:="Turn") KX ?a;case a=>k_is
  have cls_Count:=by refine' zbr a_Count ?_ ?_ ?_ ?_;all_goals k_is
  have ztL:=by refine' zmp a_Count ?_ ?_ ?_;all_goals k_is
  have cls_Bank:=by refine' zbr a_Bank ?_ ?_ ?_ ?_;all_goals k_is
  have zuB:=by refine' zmp a_Bank ?_ ?_ ?_;all_goals k_is
  have cls_Thirty:=by refine' zbr a_Thirty ?_ ?_ ?_ ?_;all_goals k_is
  have zss:=by refine' zmp a_Thirty ?_ ?_ ?_;all_goals k_is
  have cls_Exact:=by refine' zbr a_Exact ?_ ?_ ?_ ?_;all_goals k_is
  have ztl:=by refine' zmp a_Exact ?_ ?_ ?_;all_goals k_is
  have zgh:=by exists "year","Count.year",zed,qaa,a_Count
  have zg7:=by exists "unit","Count.unit",zaG,qaa,a_Count
  have zgG:=by exists "upto","Count.upto",zbW,qab,a_Count
  have zex:=by exists "weight","Count.weight",zav,qam,a_Count
  have zhx:=by exists "year","Bank.year",zeW,qaa,a_Bank
  have zh4:=by exists "unit","Count.unit",zaG,qaa,a_Bank
  have zhL:=by exists "upto","Count.upto",zbW,qab,a_Bank
  have zfq:=by exists "weight","Count.weight",zav,qam,a_Bank
  have zfA:=by exists "year","Thirty.year",zc6,qaa,a_Thirty
  have zfu:=by exists "unit","Count.unit",zaG,qaa,a_Thirty
  have zfG:=by exists "upto","Thirty.upto",zc8,qab,a_Thirty
  have zdY:=by exists "weight","Count.weight",zav,qam,a_Thirty
  have zgi:=by exists "year","Exact.year",zea,qaa,a_Exact
  have zgO:=by exists "unit","Count.unit",zaG,qaa,a_Exact
  have zgk:=by exists "upto","Exact.upto",zd3,qab,a_Exact
  have zew:=by exists "weight","Count.weight",zav,qam,a_Exact
  have ikK_Count:=by refine' zkQ a_Count ?_ ?_ ?_ ?_;all_goals k_is
  have kS_Count:=by refine' zkG (v:=false) (n:="str") a_Count ?_;kit_is
  have kK_Count_Count:=by refine' zmg (v:=true) a_Count a_Count ?_;kit_is
  have ikK_Bank:=by refine' zkQ a_Bank ?_ ?_ ?_ ?_;all_goals k_is
  have kS_Bank:=by refine' zkG (v:=false) (n:="str") a_Bank ?_;kit_is
  have kK_Bank_Count:=by refine' zmg (v:=true) a_Bank a_Count ?_;kit_is
  have ikK_Thirty:=by refine' zkQ a_Thirty ?_ ?_ ?_ ?_;all_goals k_is
  have kS_Thirty:=by refine' zkG (v:=false) (n:="str") a_Thirty ?_;kit_is
  have kK_Thirty_Count:=by refine' zmg (v:=true) a_Thirty a_Count ?_;kit_is
  have ikK_Exact:=by refine' zkQ a_Exact ?_ ?_ ?_ ?_;all_goals k_is
  have kS_Exact:=by refine' zkG (v:=false) (n:="str") a_Exact ?_;kit_is
  have kK_Exact_Count:=by refine' zmg (v:=true) a_Exact a_Count ?_;kit_is
  have zoW:=zde KX G a_Bank
  have zpY:=zde KX G a_Book
  have zkK:=zde KX G a_Count
  have zmh:=zde KX G a_Debt
  have zsd:=zde KX G a_Due
  have zii:=zde KX G a_Entry
  have zmH:=zde KX G a_Exact
  have zsm:=zde KX G a_Fee
  have zp8:=zde KX G a_Late
  have zsj:=zde KX G a_Out
  have zsg:=zde KX G a_Pay
  have zpw:=zde KX G a_Rate
  have zng:=zde KX G a_Still
  have zln:=zde KX G a_Thirty
  have zoT:=zde KX G a_Turn
  have zF:=by refine' zbr a_Book ?_ ?_ ?_ ?_;all_goals k_is
  have zmY:=by refine' zcY a_Book ?_ ?_;all_goals k_is
  have zI:=by refine' zbr a_Debt ?_ ?_ ?_ ?_;all_goals k_is
  have zkJ:=by refine' zcY a_Debt ?_ ?_;all_goals k_is
  have clE_Out:=by refine' zbr a_Out ?_ ?_ ?_ ?_;all_goals k_is
  have clE_Fee:=by refine' zbr a_Fee ?_ ?_ ?_ ?_;all_goals k_is
  have clE_Pay:=by refine' zbr a_Pay ?_ ?_ ?_ ?_;all_goals k_is
  have clE_Due:=by refine' zbr a_Due ?_ ?_ ?_ ?_;all_goals k_is
  have clE_Turn:=by refine' zbr a_Turn ?_ ?_ ?_ ?_;all_goals k_is
  have clE_Rate:=by refine' zbr a_Rate ?_ ?_ ?_ ?_;all_goals k_is
  have clE_Late:=by refine' zbr a_Late ?_ ?_ ?_ ?_;all_goals k_is
  have clE_Still:=by refine' zbr a_Still ?_ ?_ ?_ ?_;all_goals k_is
  have clE_Entry:=by refine' zbr a_Entry ?_ ?_ ?_ ?_;all_goals k_is
  have zmM:=by
   refine' zP (name:="amount") a_Out ?_
   k_is
  have zmX:=by
   refine' zP (name:="amount") a_Fee ?_
   k_is
  have zmP:=by
   refine' zP (name:="amount") a_Pay ?_
   k_is
  have zmC:=by
   refine' zP (name:="amount") a_Due ?_
   k_is
  have zlV:=by
   refine' zP (name:="amount") a_Turn ?_
   k_is
  have zmj:=by
   refine' zP (name:="amount") a_Rate ?_
   k_is
  have zmy:=by
   refine' zP (name:="amount") a_Late ?_
   k_is
  have zlu:=by
   refine' zP (name:="amount") a_Still ?_
   k_is
  have zlo:=by
   refine' zP (name:="amount") a_Entry ?_
   k_is
  have zqM:=by
   refine' zP (name:="day") a_Out ?_
   k_is
  have zrd:=by
   refine' zP (name:="day") a_Fee ?_
   k_is
  have zq2:=by
   refine' zP (name:="day") a_Pay ?_
   k_is
  have zqN:=by
   refine' zP (name:="day") a_Due ?_
   k_is
  have zoO:=by
   refine' zP (name:="day") a_Turn ?_
   k_is
  have zoZ:=by
   refine' zP (name:="day") a_Rate ?_
   k_is
  have zpb:=by
   refine' zP (name:="day") a_Late ?_
   k_is
  have znQ:=by
   refine' zP (name:="day") a_Still ?_
   k_is
  have zn1:=by
   refine' zP (name:="day") a_Entry ?_
   k_is
  have zpm:=by
   refine' zP (name:="rate") a_Out ?_
   k_is
  have zp3:=by
   refine' zP (name:="rate") a_Fee ?_
   k_is
  have zpK:=by
   refine' zP (name:="rate") a_Pay ?_
   k_is
  have zqn:=by
   refine' zP (name:="rate") a_Due ?_
   k_is
  have zn8:=by
   refine' zP (name:="rate") a_Turn ?_
   k_is
  have znV:=by
   refine' zP (name:="rate") a_Rate ?_
   k_is
  have znR:=by
   refine' zP (name:="rate") a_Late ?_
   k_is
  have zno:=by
   refine' zP (name:="rate") a_Still ?_
   k_is
  have zm2:=by
   refine' zP (name:="rate") a_Entry ?_
   k_is
  have zom:=by
   refine' zP (name:="until") a_Out ?_
   k_is
  have zn4:=by
   refine' zP (name:="until") a_Fee ?_
   k_is
  have zoe:=by
   refine' zP (name:="until") a_Pay ?_
   k_is
  have zn9:=by
   refine' zP (name:="until") a_Due ?_
   k_is
  have znd:=by
   refine' zP (name:="until") a_Turn ?_
   k_is
  have zm8:=by
   refine' zP (name:="until") a_Rate ?_
   k_is
  have zmK:=by
   refine' zP (name:="until") a_Late ?_
   k_is
  have zlZ:=by
   refine' zP (name:="until") a_Still ?_
   k_is
  have zmt:=by
   refine' zP (name:="until") a_Entry ?_
   k_is
  have zpe:=by refine' zcY a_Due ?_ ?_;all_goals k_is
  have zqf:=by refine' zcY a_Fee ?_ ?_;all_goals k_is
  have zmQ:=by refine' zcY a_Late ?_ ?_;all_goals k_is
  have zpq:=by refine' zcY a_Out ?_ ?_;all_goals k_is
  have zoS:=by refine' zcY a_Pay ?_ ?_;all_goals k_is
  have zm3:=by refine' zcY a_Rate ?_ ?_;all_goals k_is
  have zll:=by refine' zcY a_Still ?_ ?_;all_goals k_is
  have zmT:=by refine' zcY a_Turn ?_ ?_;all_goals k_is
  have zgJ:=by exists "word","Out.word",zf6,qaa,a_Out
  have zgj:=by exists "word","Fee.word",zfV,qaa,a_Fee
  have zgK:=by exists "word","Pay.word",zfX,qaa,a_Pay
  have zgo:=by exists "word","Due.word",zfW,qaa,a_Due
  have zfy:=by exists "word","Turn.word",ze8,qaa,a_Turn
  have zfE:=by exists "word","Rate.word",zfd,qaa,a_Rate
  have zfK:=by exists "word","Late.word",zeX,qaa,a_Late
  have zeC:=by exists "word","Still.word",zdR,qaa,a_Still
  have zfN:=by exists "word","Entry.word",zd9,qaa,a_Entry
  have zi8:=by exists "__init__","AmountEntry.__init__",zX,qai,a_Due
  have ziR:=by exists "__init__","AmountEntry.__init__",zX,qai,a_Fee
  have zhR:=by exists "__init__","RateEntry.__init__",zaY,qar,a_Late
  have ziS:=by exists "__init__","AmountEntry.__init__",zX,qai,a_Out
  have zjl:=by exists "__init__","AmountEntry.__init__",zX,qai,a_Pay
  have zh0:=by exists "__init__","RateEntry.__init__",zaY,qar,a_Rate
  have zgN:=by exists "__init__","Still.__init__",zd8,qaz,a_Still
  have zie:=by exists "__init__","Entry.__init__",zbu,qab,a_Turn
  have zeI:=by
   refine' zww (m:="__init__") (qual:="Entry.__init__") (st:=zbu) (ps:=qab) a_Entry ?x1 ?x2 ?x3 ?x4 ?k ?l ?c ?b
   (case x1|x2|x3=>k_is);(case x4=>rfl);(case k|l|c=>k_is)
   case b=>exact L2.us2 fun _ _=>rfl
  have zca:=by
   refine' zP (name:="due_sums") a_Book ?_
   k_is
  have zbt:=by
   refine' zP (name:="fee_sums") a_Book ?_
   k_is
  have zbP:=by
   refine' zP (name:="late_rows") a_Book ?_
   k_is
  have zbx:=by
   refine' zP (name:="out_sums") a_Book ?_
   k_is
  have zbM:=by
   refine' zP (name:="own_count") a_Book ?_
   k_is
  have zco:=by
   refine' zP (name:="own_entries") a_Book ?_
   k_is
  have zbJ:=by
   refine' zP (name:="own_grace") a_Book ?_
   k_is
  have zbw:=by
   refine' zP (name:="pay_sums") a_Book ?_
   k_is
  have zbO:=by
   refine' zP (name:="rate_rows") a_Book ?_
   k_is
  have zci:=by
   refine' zP (name:="spans") a_Book ?_
   k_is
  have zbg:=by
   refine' zP (name:="turn_days") a_Book ?_
   k_is
  have zaN:=by
   refine' zP (name:="cent_units") a_Debt ?_
   k_is
  have zU:=by
   refine' zP (name:="owed_units") a_Debt ?_
   k_is
  have zK:=by
   refine' zP (name:="principal_cents") a_Debt ?_
   k_is
  have zhY:=by exists "grow","Debt.grow",ze4,qax,a_Debt
  have zhD:=by exists "__init__","Debt.__init__",ze1,qau,a_Debt
  have zif:=by exists "owed","Debt.owed",zeY,qaa,a_Debt
  have zdf:=by exists "principal","Debt.principal",zcc,qaa,a_Debt
  have zgY:=by exists "units","Debt.units",zdN,qaa,a_Debt
  have zg2:=by exists "count","Book.count",zdB,qaa,a_Book
  have zdq:=by exists "deed_days","Book.deed_days",zb4,qaa,a_Book
  have zh6:=by exists "dues","Book.dues",zeZ,qaa,a_Book
  have zhQ:=by exists "fees","Book.fees",zfe,qaa,a_Book
  have zgu:=by exists "grace","Book.grace",zdQ,qaa,a_Book
  have zgD:=by exists "lates","Book.lates",zd0,qaa,a_Book
  have zhT:=by exists "outs","Book.outs",zeL,qaa,a_Book
  have zh3:=by exists "pays","Book.pays",zeO,qaa,a_Book
  have zgr:=by exists "rates","Book.rates",zd1,qaa,a_Book
  have zfJ:=by exists "stills","Book.stills",zdb,qaa,a_Book
  have zgx:=by exists "turns","Book.turns",zdL,qaa,a_Book
  have zdj:=by exists "add_cents","Debt.add_cents",zce,qac,a_Debt
  have zhM:=by exists "turn","Debt.turn",ze7,qaa,a_Debt
  have zh7:=by exists "copy","Debt.copy",zfa,qaa,a_Debt
  have zjp:=by exists "fee","Debt.fee",zf2,qac,a_Debt
  have zhE:=by exists "lend","Debt.lend",zeU,qac,a_Debt
  have zhS:=by exists "take","Debt.take",ze0,qac,a_Debt
  have zh2:=by exists "__init__","Book.__init__",zeK,qbe,a_Book
  have zbS:=by refine' zgb (mg:=mg) (x:="FIRST_YEAR") (i:=2000) KX G ?a;case a=>k_is
  have zky:=by
   refine' zwk (mg:=mg) (x:="LENGTHS") (xs:=[.int 31,.int 28,.int 31,.int 30,.int 31,.int 30,.int 31,.int 31,.int 30,.int 31,.int 30,.int 31]) KX G ?a ?l ?r ?z
   case a|l=>k_is
   (case r=>repeat (first | exact .nil | refine .cons ⟨_,rfl⟩ ?_))
   (case z=>decide)
  have zeo:=by refine' zgb (mg:=mg) (x:="MOST_ENTRIES") (i:=500) KX G ?a;case a=>k_is
  have zgZ:=by refine' zgb (mg:=mg) (x:="MOST_GRACE") (i:=366) KX G ?a;case a=>k_is
  have zgX:=by refine' zgb (mg:=mg) (x:="RATE_PARTS") (i:=10000) KX G ?a;case a=>k_is
  have zgS:=by refine' zgb (mg:=mg) (x:="ROUND_DAYS") (i:=146097) KX G ?a;case a=>k_is
  have zfI:=by refine' zgb (mg:=mg) (x:="ROUND_YEARS") (i:=400) KX G ?a;case a=>k_is
  have ziI:=by exists "table_of",zf0,qak
  have zmL:=by exists "begun",zkI,qat
  have zet:=by exists "running_sums",zcS,["rows"]
  have zlB:=by exists "joined",zjq,["spans"]
  have ziY:=by exists "is_whole",zf3,["thing"]
  have zkf:=by exists "is_leap",zhd,qah
  have ziU:=by exists "new_year",zfZ,qah
  have zlP:=by exists "summed",zjb,qak
  have zeE:=by exists "_law_cell_at",zcU,qaq
  have zgf:=by exists "_law_draws",zef,qav
  have zgn:=by exists "_law_value",zd2,qbg
  have zib:=by exists "_law_leap",zeV,qas
  have zih:=by exists "_law_sums",zeN,qbh
  have zgT:=by exists "_law_deeds",zdH,qbi
  have zfs:=by exists "_law_stands",zc3,qaf
  have zjM:=by exists "_law_at",zhv,qbj
  have zfz:=by exists "_law_sum_to",zdc,qaf
  have ziV:=by exists "value_at",zfY,qbk
  have zid:=by exists "late_sums",zeT,qag
  have zmV:=by exists "moved",zkB,qal
  have zes:=by exists "turning_days",zcT,qag
  have zgH:=by exists "deeds_upto",zdI,qao
  have zg6:=by exists "month_days",zec,qay
  have zjP:=by exists "year_of",zhf,qan
  have zhV:=by exists "is_within",zeS,qba
  have zlG:=by exists "sum_by",ziL,qae
  have zkg:=by exists "days_of",zg9,qae
  have zgW:=by exists "rate_table",zd4,qae
  have zfw:=by exists "still_spans",zc5,qbl
  have zjc:=by exists "_law_row",zf1,qbm
  have zgt:=by exists "_law_grace",zdX,qad
  have zgI:=by exists "_law_count",zdD,qad
  have zcW:=by exists "_law_month_size",zbL,qaw
  have zhP:=by exists "_law_unit",zeM,qad
  have zdi:=by exists "_law_all_deeds",zb3,qbn
  have zgC:=by exists "_law_moved",zd5,qaf
  have zlM:=by exists "stands",zi9,qal
  have zke:=by exists "date_of",zhb,qan
  have zfr:=by exists "check_terms",zda,qbb
  have zfD:=by exists "fallen_dues",zc7,qbc
  have zhK:=by exists "_law_date",zeQ,qbo
  have zek:=by exists "_law_lacking",zcC,qbp
  have zgR:=by exists "_law_edges",zdP,qap
  have zeg:=by exists "_law_far_row",zcE,qbq
  have zkh:=by exists "burdens",zhn,qag
  have ziX:=by exists "do_deeds",zf5,qbd
  have zhA:=by exists "_law_made",zeP,qbr
  have zhN:=by exists "_law_upto",ze2,qbs
  have zi1:=by exists "_law_far",zf7,qap
  have zgq:=by exists "charged_by",zd7,qbt
  have zh5:=by exists "_law_book",ze9,qbf
  have zey:=by exists "debts_behind",zcF,qbu
  have zfB:=by exists "accounts_at",zc1,qao
  have zjT:=by exists "account",zhp,qaj
  have zqi:=by exists "owed",zlT,qaj
  have zov:=by exists "law",zlX,qad
  exact ⟨zov,fun base=>zw1 (⟨zoN,zfm,zhq,zcA,zdd,zcv,zcp,zcM,zdx,ziZ,zbG,zkC,(fun kd=>match kd with | .plain=>cls_Count | .bank=>cls_Bank | .thirty=>cls_Thirty | .exact=>cls_Exact),(fun kd=>match kd with | .plain=>ztL | .bank=>zuB | .thirty=>zss | .exact=>ztl),(fun kd=>match kd with | .plain=>ikK_Count | .bank=>ikK_Bank | .thirty=>ikK_Thirty | .exact=>ikK_Exact),(fun k=>match k with | .plain=>kK_Count_Count | .bank=>kK_Bank_Count | .thirty=>kK_Thirty_Count | .exact=>kK_Exact_Count),(fun kd=>match kd with | .plain=>kS_Count | .bank=>kS_Bank | .thirty=>kS_Thirty | .exact=>kS_Exact),zoW,zpY,zkK,zmh,zsd,zii,zmH,zsm,zp8,zsj,zsg,zpw,zng,zln,zoT,zF,zmY,zI,zkJ,(fun k=>match k with | .out=>clE_Out | .fee=>clE_Fee | .pay=>clE_Pay | .due=>clE_Due | .turn=>clE_Turn | .rate=>clE_Rate | .late=>clE_Late | .still=>clE_Still | .base=>clE_Entry),(fun k=>match k with | .out=>zmM | .fee=>zmX | .pay=>zmP | .due=>zmC | .turn=>zlV | .rate=>zmj | .late=>zmy | .still=>zlu | .base=>zlo),(fun k=>match k with | .out=>zqM | .fee=>zrd | .pay=>zq2 | .due=>zqN | .turn=>zoO | .rate=>zoZ | .late=>zpb | .still=>znQ | .base=>zn1),(fun k=>match k with | .out=>zpm | .fee=>zp3 | .pay=>zpK | .due=>zqn | .turn=>zn8 | .rate=>znV | .late=>znR | .still=>zno | .base=>zm2),(fun k=>match k with | .out=>zom | .fee=>zn4 | .pay=>zoe | .due=>zn9 | .turn=>znd | .rate=>zm8 | .late=>zmK | .still=>zlZ | .base=>zmt),zpe,zqf,zmQ,zpq,zoS,zm3,zll,zmT,zca,zbt,zbP,zbx,zbM,zco,zbJ,zbw,zbO,zci,zbg,zaN,zU,zK,zbS,zky,zeo,zgZ,zgX,zgS,zfI⟩:My.Txt _ mg) ziI zmL zet zlB ziY zkf ziU zlP zeE zgf zgn zib zih zgT zfs zjM zfz ziV zid zmV zes zgH zg6 zjP zhV zlG zkg zgW zfw zjc zgt zgI zcW zhP zdi zgC zlM zke zfr zfD zhK zek zgR zeg zkh ziX zhA zhN zi1 zgq zh5 zey zfB zjT zqi zov zgJ zgj zgK zgo zfy zfE zfK zeC zfN zi8 ziR zhR ziS zjl zh0 zgN zie zeI zhY zhD zif zdf zgY zg2 zdq zh6 zhQ zgu zgD zhT zh3 zgr zfJ zgx zdj zhM zh7 zjp zhE zhS zh2 zgh zhx zfA zgi zg7 zh4 zfu zgO zgG zhL zfG zgk zex zfq zdY zew⟩
